"""What counts as a book, a place of it, an amount and money, and the refusal of all else."""

from leasttariff.errors import BadAmount, BadBook, BadMoney, BadPlace

# The refusals show nothing of what was refused: writing out a value can fail by itself,
# as it does with a number of very many figures.


def is_whole(value):
    # To Python, True and False are whole numbers too.
    return isinstance(value, int) and not isinstance(value, bool) and value >= 0


def is_whole_pair(value):
    return isinstance(value, tuple) and len(value) == 2 and is_whole(value[0]) and is_whole(value[1])


def common_divisor(one, other):
    while other > 0:
        rest = one % other
        one = other
        other = rest
    return one


def is_amount(value):
    return is_whole_pair(value) and value[1] > 0 and common_divisor(value[0], value[1]) == 1


def is_place(book, value):
    return is_whole(value) and value < len(book)


def check_book(book):
    if not isinstance(book, list) or len(book) == 0:
        raise BadBook("a book is a list of one or more tariffs")
    for tariff in book:
        if not is_whole_pair(tariff):
            raise BadBook("a tariff is a pair of whole numbers, 0 or more")


def check_place(book, place):
    if not is_place(book, place):
        raise BadPlace("a place is a whole number from 0 to below the book's length")


def check_amount(amount):
    if not is_amount(amount):
        raise BadAmount("an amount is a pair of whole numbers in lowest terms, the second above 0")


def check_money(money):
    if not is_whole(money):
        raise BadMoney("money is a whole number, 0 or more")
