"""What the document says of answers, in fractions and word for word, apart from the program's own ways."""

from fractions import Fraction
from math import gcd


def price(tariff, amount):
    return tariff[0] + tariff[1] * amount


def is_count(value):
    return type(value) is int and value >= 0


def is_amount(value):
    return (
        type(value) is tuple and len(value) == 2 and is_count(value[0]) and is_count(value[1])
        and value[1] > 0 and gcd(value[0], value[1]) == 1
    )


def is_place(book, value):
    return type(value) is int and value in range(len(book))


def fraction(amount):
    return Fraction(amount[0], amount[1])


def telling_amounts(tariffs):
    """None, wherever two cost the same, between each two of these, and beyond them all."""
    spots = {Fraction(0)}
    for one in tariffs:
        for other in tariffs:
            if one[1] != other[1]:
                spots.add(Fraction(one[0] - other[0], other[1] - one[1]))
    spots = sorted(spot for spot in spots if spot >= 0)
    return spots + [(low + high) / 2 for low, high in zip(spots, spots[1:])] + [spots[-1] + 1]


def is_mixture(book, tariff, row):
    if type(row) is not tuple or len(row) != 4:
        return False
    one, other, first, second = row
    if not (is_place(book, one) and is_place(book, other) and is_count(first) and is_count(second)):
        return False
    if first == 0 and second == 0:
        return False
    share = Fraction(first, first + second)
    return all(share * book[one][k] + (1 - share) * book[other][k] <= tariff[k] for k in (0, 1))


def alone_holds(book, place, amount):
    if not is_amount(amount):
        return False
    own = price(book[place], fraction(amount))
    return all(price(book[k], fraction(amount)) > own for k in range(len(book)) if k != place)


def needless_holds(book, place, one, other, first, second):
    return is_mixture(book, book[place], (one, other, first, second)) and place not in (one, other)


def ranges_hold(book, begins, places):
    if len(begins) != len(places) or not begins:
        return False
    if not all(is_amount(begin) for begin in begins) or not all(is_place(book, place) for place in places):
        return False
    spots = [fraction(begin) for begin in begins]
    if spots[0] != 0 or any(low >= high for low, high in zip(spots, spots[1:])):
        return False
    if any(one == other for one, other in zip(places, places[1:])):
        return False
    asked = sorted(set(telling_amounts(book) + spots + [spots[-1] + 1]))
    for k, place in enumerate(places):
        for amount in asked:
            within = spots[k] <= amount and (k + 1 == len(spots) or amount <= spots[k + 1])
            if within and price(book[place], amount) > min(price(tariff, amount) for tariff in book):
                return False
    return True


def under_holds(one, other, rows):
    return len(rows) == len(other) and all(is_mixture(one, tariff, row) for tariff, row in zip(other, rows))


def over_holds(one, other, amount):
    if not is_amount(amount):
        return False
    spot = fraction(amount)
    return any(all(price(mine, spot) > price(yours, spot) for mine in one) for yours in other)


def most_holds(book, money, place, amount):
    if not is_place(book, place) or not is_amount(amount):
        return False
    spot = fraction(amount)
    costs = [price(tariff, spot) for tariff in book]
    if costs[place] != money or any(one < money for one in costs):
        return False
    return all(tariff[1] > 0 for tariff, one in zip(book, costs) if one == money)


def endless_holds(book, money, place):
    return is_place(book, place) and book[place][1] == 0 and book[place][0] <= money


def dear_holds(book, money):
    return all(tariff[0] > money for tariff in book)
