"""Books that the tests ask of: all small ones, the edges, and large numbers."""

from itertools import product
from random import Random

from wrong_values import HUGE

SMALL_TARIFFS = [(0, 0), (0, 3), (1, 1), (1, 2), (2, 0), (2, 1), (3, 0)]

EDGES = [
    [(0, 0)],
    [(5, 0)],
    [(0, 5)],
    [(3, 4)],
    [(3, 4), (3, 4)],
    [(3, 4)] * 5,
    [(0, 0), (0, 0)],
    [(2, 0), (0, 2)],
    [(0, 2), (2, 0)],
    [(3, 1), (2, 2), (1, 3)],                   # three that meet in one
    [(1, 3), (3, 1), (2, 2)],
    [(2, 2), (2, 2), (3, 1), (1, 3), (1, 3)],
    [(0, 6), (1, 4), (3, 0), (2, 2)],           # all meet where half a piece is asked
    [(1, 3), (3, 1), (2, 1)],                   # one beneath the meeting of the others
    [(1, 4), (4, 1), (3, 3)],                   # one above it
    [(10, 3), (0, 7), (25, 0)],
    [(25, 0), (10, 3), (0, 7)],
    [(4, 5), (4, 4), (4, 6)],                   # alike at once
    [(5, 4), (4, 4), (6, 4)],                   # alike by the piece
    [(7, 0), (6, 0), (6, 0), (8, 0)],
    [(0, 7), (0, 6), (0, 6), (0, 8)],
    [(0, 1), (1, 0), (HUGE, 0)],
]

LARGE = [
    [(HUGE + 2, 0), (0, HUGE + 1), (1, HUGE)],
    [(HUGE, HUGE), (HUGE, HUGE)],
    [(0, HUGE), (HUGE, 0)],
    [(1, 2 * HUGE + 1), (HUGE + 1, HUGE + 1), (2 * HUGE + 1, 1)],
    [(1, 2 * HUGE + 1), (HUGE, HUGE + 1), (2 * HUGE + 1, 1)],
    [(1, 2 * HUGE + 1), (HUGE + 2, HUGE + 1), (2 * HUGE + 1, 1)],
    [(10 ** 59 - 1, 7), (7, 10 ** 59 - 1), (10 ** 60, 0), (3 * 10 ** 58, 10 ** 58)],
]


def curved(length):
    """A book of which each tariff is needed, its places mixed up."""
    book = [(k * k, 2 * (length - k)) for k in range(length)]
    Random(length).shuffle(book)
    return book


def chance_books(count, length, bound, seed):
    source = Random(seed)
    return [
        [(source.randrange(bound), source.randrange(bound)) for k in range(source.randrange(1, length + 1))]
        for n in range(count)
    ]


def small_books():
    return [list(book) for length in (1, 2, 3) for book in product(SMALL_TARIFFS, repeat=length)]


def books_to_ask():
    return (
        small_books() + EDGES + LARGE
        + chance_books(150, 7, 9, 1) + chance_books(60, 9, 40, 2) + chance_books(20, 6, 10 ** 80, 3)
    )


def pairs_to_ask():
    tariffs = [(0, 0), (0, 2), (1, 1), (2, 0), (2, 1)]
    books = [list(book) for length in (1, 2) for book in product(tariffs, repeat=length)]
    pairs = [(one, other) for one in books for other in books]
    pairs += [(one, other) for one in EDGES for other in EDGES]
    pairs += [(one, other) for one in LARGE[:6] for other in LARGE[:6]]
    drawn = chance_books(300, 6, 12, 4) + chance_books(100, 5, 10 ** 70, 5)
    return pairs + list(zip(drawn[::2], drawn[1::2]))
