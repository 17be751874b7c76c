"""What a tariff of a book costs for an amount, and which one costs least."""

from leasttariff.kinds import check_amount, check_book, check_place, common_divisor


def lowest_terms(top, bottom):
    divisor = common_divisor(top, bottom)
    return (top // divisor, bottom // divisor)


def top_of_cost(tariff, amount):
    # All costs for one amount are fractions over the amount's own second number,
    # so these tops alone tell which cost is less.
    return tariff[0] * amount[1] + tariff[1] * amount[0]


def cost(book, place, amount):
    check_book(book)
    check_place(book, place)
    check_amount(amount)
    return lowest_terms(top_of_cost(book[place], amount), amount[1])


def cheapest(book, amount):
    check_book(book)
    check_amount(amount)
    tops = [top_of_cost(tariff, amount) for tariff in book]
    least = min(tops)
    return (tops.index(least), lowest_terms(least, amount[1]))
