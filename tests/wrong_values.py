"""Values that are refused, for the tests of every function that refuses."""

from decimal import Decimal
from fractions import Fraction


class Hostile:
    """Fails at whatever is asked of it but its class."""

    def fail(self, *others):
        raise RuntimeError("asked")

    __eq__ = __lt__ = __le__ = __gt__ = __ge__ = __bool__ = __len__ = __iter__ = fail
    __index__ = __int__ = __hash__ = __repr__ = __str__ = __getitem__ = __contains__ = fail
    __mod__ = __mul__ = __rmul__ = __add__ = __radd__ = __rmod__ = fail


HUGE = 10 ** 6000  # more figures than Python writes out unasked

NO_NUMBERS = [
    True, False, None, 1.0, 0.0, float("nan"), float("inf"), 1j, "1", "", b"1", (), (1,), [], [1], {}, {0: 1},
    set(), frozenset(), range(2), Fraction(1), Decimal(1), object(), int, len, Hostile(),
]

NO_COUNTS = NO_NUMBERS + [-1, -2, -HUGE]

# Neither a tuple of two numbers nor anything that holds one.
NO_PAIRS = [
    None, True, False, 0, 1, -1, HUGE, 1.5, "12", "1/2", b"12", (), (1,), (1, 2, 3), (1, 2, 1), ((1, 2),),
    [], [1, 2], {}, {1: 2, 3: 4}, {1, 2}, frozenset([1, 2]), range(1, 3), Fraction(1, 2), Decimal(1), object(),
    tuple, iter((1, 2)), Hostile(), (HUGE,), (0, 1, HUGE),
]

NO_TARIFFS = NO_PAIRS + [(bad, 1) for bad in NO_COUNTS] + [(1, bad) for bad in NO_COUNTS] + [
    (-1, -1), (True, False), ((1, 2), (3, 4)),
]


def looped():
    book = []
    book.append(book)
    return book


NO_LISTS = [
    None, True, False, 0, 1, HUGE, 1.5, "", "1+2", b"", (), ((1, 2),), (1, 2), {}, {0: (1, 2)}, set(), {(1, 2)},
    frozenset([(1, 2)]), range(0), range(3), iter([(1, 2)]), zip([1], [2]), object(), list, Hostile(),
]

NO_BOOKS = (
    NO_LISTS
    + [[], [[]], [[(1, 2)]], [1, 2], looped()]
    + [[bad] for bad in NO_TARIFFS]
    + [[bad, (1, 2), (3, 4)] for bad in NO_TARIFFS]
    + [[(1, 2), bad, (3, 4)] for bad in NO_TARIFFS]
    + [[(1, 2), (3, 4), bad] for bad in NO_TARIFFS]
)

NO_AMOUNTS = NO_PAIRS + [(bad, 1) for bad in NO_COUNTS] + [(1, bad) for bad in NO_COUNTS] + [
    (0, 0), (1, 0), (7, 0), (HUGE, 0), (-1, 0), (0, 2), (0, 3), (0, HUGE), (0, -1), (1, -1), (-1, -1), (-1, -2),
    (2, 2), (2, 4), (4, 2), (6, 4), (9, 12), (12, 9), (35, 21), (HUGE, 2), (5, HUGE), (HUGE, HUGE),
    (3 * HUGE, 3 * HUGE + 3), (True, True), (False, True), (False, 1), (0, True), ((0, 1), (1, 1)),
]


def no_places(book):
    return NO_COUNTS + [len(book), len(book) + 1, -len(book), HUGE, (0, 1)]


# No text at all, or a text that no book is written as.
NO_TEXTS = [
    None, True, False, 0, 1, HUGE, 1.5, b"", b"1+2", (), ("1+2",), [], ["1+2"], [(1, 2)], (1, 2), {}, {"1+2": 1}, set(),
    range(3), iter("1+2"), object(), str, Hostile(), bytearray(b"1+2"),
]
