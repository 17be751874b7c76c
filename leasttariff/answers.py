"""The answers, each of which can be held against what was asked: does it show what it tells?"""

from leasttariff.books import top_of_cost
from leasttariff.kinds import is_amount, is_place, is_whole

# An answer may be made by hand or changed later, so each one holds what its fields are
# then, and takes nothing of them for granted.


def tops_of_cost(book, amount):
    return [top_of_cost(tariff, amount) for tariff in book]


def is_weighing(book, row):
    if not isinstance(row, tuple) or len(row) != 4:
        return False
    if not is_place(book, row[0]) or not is_place(book, row[1]):
        return False
    return is_whole(row[2]) and is_whole(row[3]) and row[2] + row[3] > 0


def is_mixture(book, tariff, row):
    if not is_weighing(book, row):
        return False
    one = book[row[0]]
    other = book[row[1]]
    weights = row[2] + row[3]
    at_once = row[2] * one[0] + row[3] * other[0]
    by_piece = row[2] * one[1] + row[3] * other[1]
    return at_once <= weights * tariff[0] and by_piece <= weights * tariff[1]


def is_less(one, other):
    return one[0] * other[1] < other[0] * one[1]


def are_begins(begins):
    if len(begins) == 0 or not all([is_amount(begin) for begin in begins]):
        return False
    return begins[0] == (0, 1) and all([is_less(one, other) for one, other in zip(begins, begins[1:])])


def are_places_in_turn(book, places):
    if not all([is_place(book, place) for place in places]):
        return False
    return all([one != other for one, other in zip(places, places[1:])])


def are_least_at_both_ends(book, begins, places):
    for index, begin in enumerate(begins):
        tops = tops_of_cost(book, begin)
        least = min(tops)
        if tops[places[index]] > least:
            return False
        if index > 0 and tops[places[index - 1]] > least:
            return False
    return True


class Answer:
    pass


class Alone(Answer):
    def __init__(self, amount):
        self.amount = amount

    def shows(self, book, place):
        if not is_amount(self.amount):
            return False
        tops = tops_of_cost(book, self.amount)
        return all([top > tops[place] for index, top in enumerate(tops) if index != place])


class Needless(Answer):
    def __init__(self, one, other, first, second):
        self.one = one
        self.other = other
        self.first = first
        self.second = second

    def shows(self, book, place):
        row = (self.one, self.other, self.first, self.second)
        return is_mixture(book, book[place], row) and self.one != place and self.other != place


class Ranges(Answer):
    def __init__(self, begins, places):
        self.begins = list(begins)
        self.places = list(places)

    def shows(self, book):
        if len(self.begins) != len(self.places):
            return False
        if not are_begins(self.begins) or not are_places_in_turn(book, self.places):
            return False
        # Costs grow evenly: what is least at both ends is least between them, and what is
        # least at a begin stays so for ever just when no other costs less by the piece.
        last = book[self.places[-1]]
        lasting = all([last[1] <= tariff[1] for tariff in book])
        return lasting and are_least_at_both_ends(book, self.begins, self.places)


class Under(Answer):
    def __init__(self, rows):
        self.rows = list(rows)

    def shows(self, one, other):
        if len(self.rows) != len(other):
            return False
        return all([is_mixture(one, tariff, row) for tariff, row in zip(other, self.rows)])


class Over(Answer):
    def __init__(self, amount):
        self.amount = amount

    def shows(self, one, other):
        if not is_amount(self.amount):
            return False
        return min(tops_of_cost(one, self.amount)) > min(tops_of_cost(other, self.amount))


class Most(Answer):
    def __init__(self, place, amount):
        self.place = place
        self.amount = amount

    def shows(self, book, money):
        if not is_place(book, self.place) or not is_amount(self.amount):
            return False
        tops = tops_of_cost(book, self.amount)
        just = money * self.amount[1]
        if tops[self.place] != just or min(tops) < just:
            return False
        return all([tariff[1] > 0 for tariff, top in zip(book, tops) if top == just])


class Endless(Answer):
    def __init__(self, place):
        self.place = place

    def shows(self, book, money):
        if not is_place(book, self.place):
            return False
        tariff = book[self.place]
        return tariff[1] == 0 and tariff[0] <= money


class Dear(Answer):
    def shows(self, book, money):
        return all([tariff[0] > money for tariff in book])
