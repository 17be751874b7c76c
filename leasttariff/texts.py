"""A book as a text, and back."""

from leasttariff.errors import BadBook, BadText
from leasttariff.kinds import check_book

FIGURES = "0123456789"


def is_short(number):
    # Held against a number, not by its text: Python does not write out numbers of very many figures.
    return number < 10 ** 60


def is_number(word):
    if len(word) == 0 or len(word) > 60:
        return False
    # Python's own question for figures lets in signs of other scripts.
    if not all([sign in FIGURES for sign in word]):
        return False
    return word == "0" or word[0] != "0"


def written(book):
    check_book(book)
    if not all([is_short(tariff[0]) and is_short(tariff[1]) for tariff in book]):
        raise BadBook("numbers of more than sixty figures are not written")
    return " ".join([f"{at_once}+{by_piece}" for at_once, by_piece in book])


def read_tariff(word):
    parts = word.split("+")
    if len(parts) != 2 or not is_number(parts[0]) or not is_number(parts[1]):
        raise BadText("a tariff is two numbers of up to sixty figures with + between")
    return (int(parts[0]), int(parts[1]))


def read(text):
    if not isinstance(text, str):
        raise BadText("a book is read from a text")
    return [read_tariff(word) for word in text.split(" ")]
