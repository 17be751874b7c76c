"""What is told of a book, of two books, and of a book and some money."""

from leasttariff.answers import Alone, Dear, Endless, Most, Needless, Over, Ranges, Under
from leasttariff.books import lowest_terms, top_of_cost
from leasttariff.kinds import check_book, check_money, check_place

# Within this file the begins of ranges are fractions in any terms: to shorten one takes long
# with large numbers, so that is done to what is told alone.


def by_falling_piece(book, places):
    # Of those alike by the piece the dearest at once comes first, and of like tariffs the
    # last one, so that each gives way to the next as any other that isn't needed does.
    return sorted(places, key=lambda place: (book[place][1], book[place][0], place), reverse=True)


def least_in_turn(book, places):
    """The begins and the places of the ranges, as if the book had these places alone."""
    begins = []
    kept = []
    for place in by_falling_piece(book, places):
        tariff = book[place]
        # One that costs no more at the begin and no more by the piece costs no more ever after.
        while len(kept) > 0 and top_of_cost(tariff, begins[-1]) <= top_of_cost(book[kept[-1]], begins[-1]):
            begins.pop()
            kept.pop()
        begin = (0, 1)
        if len(kept) > 0:
            before = book[kept[-1]]
            begin = (tariff[0] - before[0], before[1] - tariff[1])
        begins.append(begin)
        kept.append(place)
    return (begins, kept)


def turn_for(tariff, book, places):
    """Where in turn the first comes that costs no more by the piece than the tariff, else the last one."""
    low = 0
    high = len(places) - 1
    while low < high:
        middle = (low + high) // 2
        if book[places[middle]][1] <= tariff[1]:
            high = middle
        else:
            low = middle + 1
    return low


def amount_below(tariff, book, begins, places):
    """An amount for which all in turn cost more than the tariff, or None."""
    turn = turn_for(tariff, book, places)
    # Up to this begin all in turn cost more by the piece than the tariff, and from it on no
    # more: if they cost more than the tariff anywhere, then here.
    begin = begins[turn]
    least = book[places[turn]]
    if top_of_cost(least, begin) > top_of_cost(tariff, begin):
        return lowest_terms(begin[0], begin[1])
    if least[1] > tariff[1]:
        # The last one too costs more by the piece: one piece beyond where both cost the same,
        # it costs more.
        apart = least[1] - tariff[1]
        return lowest_terms(tariff[0] - least[0] + apart, apart)
    return None


def mixture_for(tariff, book, places):
    """A mixture for a tariff for which there is no amount below."""
    turn = turn_for(tariff, book, places)
    after = places[turn]
    if turn == 0:
        return (after, after, 1, 0)
    before = places[turn - 1]
    # So weighed, both together cost by the piece just what the tariff does; and where the one
    # gives way to the other both cost the same, no more than the tariff: so at once no more.
    return (before, after, tariff[1] - book[after][1], book[before][1] - tariff[1])


def alone(book, place):
    check_book(book)
    check_place(book, place)
    others = [index for index in range(len(book)) if index != place]
    if len(others) == 0:
        return Alone(lowest_terms(0, 1))
    turns = least_in_turn(book, others)
    amount = amount_below(book[place], book, turns[0], turns[1])
    if amount is not None:
        return Alone(amount)
    row = mixture_for(book[place], book, turns[1])
    return Needless(row[0], row[1], row[2], row[3])


def ranges(book):
    check_book(book)
    turns = least_in_turn(book, list(range(len(book))))
    return Ranges([lowest_terms(begin[0], begin[1]) for begin in turns[0]], turns[1])


def under(one, other):
    check_book(one)
    check_book(other)
    turns = least_in_turn(one, list(range(len(one))))
    for tariff in other:
        amount = amount_below(tariff, one, turns[0], turns[1])
        if amount is not None:
            return Over(amount)
    return Under([mixture_for(tariff, one, turns[1]) for tariff in other])


def reaches_further(one, other, money):
    return (money - one[0]) * other[1] > (money - other[0]) * one[1]


def furthest(book, places, money):
    best = places[0]
    for place in places:
        if reaches_further(book[place], book[best], money):
            best = place
    return best


def most(book, money):
    check_book(book)
    check_money(money)
    within = [place for place, tariff in enumerate(book) if tariff[0] <= money]
    if len(within) == 0:
        return Dear()
    free = [place for place in within if book[place][1] == 0]
    if len(free) > 0:
        return Endless(free[0])
    place = furthest(book, within, money)
    return Most(place, lowest_terms(money - book[place][0], book[place][1]))
