import copy
import gc
import inspect
import unittest
import weakref
from itertools import product
from math import gcd

import by_the_words as words
from books_to_ask import EDGES, chance_books, small_books
from leasttariff import answers
from leasttariff.answers import Alone, Answer, Dear, Endless, Most, Needless, Over, Ranges, Under
from leasttariff.telling import alone, most, ranges, under
from told import KeptList, Told
from wrong_values import HUGE

FIELDS = {
    "Alone": ["amount"],
    "Needless": ["one", "other", "first", "second"],
    "Ranges": ["begins", "places"],
    "Under": ["rows"],
    "Over": ["amount"],
    "Most": ["place", "amount"],
    "Endless": ["place"],
    "Dear": [],
}
ASKED = {
    "Alone": ["book", "place"],
    "Needless": ["book", "place"],
    "Ranges": ["book"],
    "Under": ["one", "other"],
    "Over": ["one", "other"],
    "Most": ["book", "money"],
    "Endless": ["book", "money"],
    "Dear": ["book", "money"],
}
AMOUNTS = [(upper, lower) for lower in range(1, 4) for upper in range(0, 7) if gcd(upper, lower) == 1]
BOOK = [(10, 3), (0, 7), (25, 0)]
SOME_BOOKS = EDGES[:-1] + chance_books(25, 4, 6, 6)


class Classes(unittest.TestCase):
    def test_each_is_straight_under_answer(self):
        self.assertEqual(Answer.__bases__, (object,))
        for name in FIELDS:
            self.assertEqual(getattr(answers, name).__bases__, (Answer,))
            self.assertEqual(getattr(answers, name).__name__, name)

    def test_made_and_asked_with_the_names_told(self):
        for name, fields in FIELDS.items():
            made = getattr(answers, name)
            parameters = list(inspect.signature(made.__init__).parameters)[1:] if fields else []
            self.assertEqual(parameters, fields)
            self.assertEqual(list(inspect.signature(made.shows).parameters)[1:], ASKED[name])

    def test_fields_are_what_they_are_made_with(self):
        self.assertEqual(vars(Alone((3, 2))), {"amount": (3, 2)})
        self.assertEqual(vars(Needless(4, 3, 2, 1)), {"one": 4, "other": 3, "first": 2, "second": 1})
        self.assertEqual(vars(Ranges([(0, 1), (3, 2)], [5, 4])), {"begins": [(0, 1), (3, 2)], "places": [5, 4]})
        self.assertEqual(vars(Under([(4, 3, 2, 1)])), {"rows": [(4, 3, 2, 1)]})
        self.assertEqual(vars(Over((3, 2))), {"amount": (3, 2)})
        self.assertEqual(vars(Most(2, (3, 2))), {"place": 2, "amount": (3, 2)})
        self.assertEqual(vars(Endless(2)), {"place": 2})
        self.assertEqual(vars(Dear()), {})


class Shown(Told):
    """Holds what shows answers against the words of the document, and counts both."""

    def setUp(self):
        self.seen = {True: 0, False: 0}

    def assert_shows(self, expected, answer, *asked):
        self.assertIs(answer.shows(*asked), expected, (vars(answer), asked))
        self.seen[expected] += 1

    def assert_both_seen(self):
        self.assertTrue(self.seen[True] > 20 and self.seen[False] > 20, self.seen)


class AloneShows(Shown):
    def test_every_small_case(self):
        for book in small_books() + SOME_BOOKS:
            for place, amount in product(range(len(book)), AMOUNTS):
                self.assert_shows(words.alone_holds(book, place, amount), Alone(amount), book, place)
        self.assert_both_seen()

    def test_where_another_costs_just_as_much(self):
        self.assert_shows(False, Alone((5, 2)), BOOK, 0)
        self.assert_shows(True, Alone((HUGE + 1, 2 * (HUGE // 5))), BOOK, 0)
        self.assert_shows(False, Alone((HUGE + 1, 2 * (HUGE // 5))), BOOK, 1)
        self.assert_shows(True, Alone((HUGE - 1, 2 * (HUGE // 5))), BOOK, 1)
        self.assert_shows(False, Alone((5, 2)), BOOK, 1)

    def test_book_of_one(self):
        self.assert_shows(True, Alone((0, 1)), [(4, 4)], 0)
        self.assert_shows(True, Alone((HUGE, 7)), [(0, 0)], 0)

    def test_numbers_that_miss_by_one(self):
        self.assert_shows(True, Alone((1, 1)), [(HUGE, HUGE), (HUGE, HUGE + 1)], 0)
        self.assert_shows(False, Alone((1, 1)), [(HUGE, HUGE), (HUGE + 1, HUGE - 1)], 0)
        self.assert_shows(False, Alone((1, 1)), [(HUGE, HUGE), (HUGE, HUGE - 1)], 0)

    def test_a_field_that_is_no_amount(self):
        for amount in ((2, 4), (0, 2), (1, 0), 3, (-1, 2)):
            self.assert_shows(False, Alone(amount), [(4, 4)], 0)


class NeedlessShows(Shown):
    def test_every_small_case(self):
        books = [book for book in small_books() if len(book) < 3] + SOME_BOOKS[:12]
        for book in books:
            places = range(-1, len(book) + 1)
            for fields in product(places, places, (-1, 0, 1, 2), (-1, 0, 1, 2)):
                for place in range(len(book)):
                    expected = words.needless_holds(book, place, *fields)
                    self.assert_shows(expected, Needless(*fields), book, place)
        self.assert_both_seen()

    def test_weights_that_miss_by_one(self):
        book = [(10, 0), (0, 15), (4, 9)]
        self.assert_shows(True, Needless(0, 1, 2, 3), book, 2)
        self.assert_shows(True, Needless(1, 0, 3, 2), book, 2)
        self.assert_shows(True, Needless(0, 1, 2 * HUGE, 3 * HUGE), book, 2)
        for first, second in ((1, 3), (3, 3), (2, 2), (2, 4), (2 * HUGE + 1, 3 * HUGE), (2 * HUGE, 3 * HUGE + 1)):
            self.assert_shows(False, Needless(0, 1, first, second), book, 2)

    def test_tariffs_that_miss_by_one(self):
        others = [(2 * HUGE, 0), (0, 2 * HUGE)]
        self.assert_shows(True, Needless(0, 1, 1, 1), others + [(HUGE, HUGE)], 2)
        self.assert_shows(True, Needless(0, 1, 1, 1), others + [(HUGE, HUGE + 1)], 2)
        self.assert_shows(False, Needless(0, 1, 1, 1), others + [(HUGE - 1, HUGE)], 2)
        self.assert_shows(False, Needless(0, 1, 1, 1), others + [(HUGE, HUGE - 1)], 2)
        self.assert_shows(False, Needless(0, 1, 1, 1), others + [(HUGE + 9, HUGE - 1)], 2)

    def test_the_place_itself_is_not_one_of_the_two_with_any_weight(self):
        book = [(3, 4), (3, 4), (1, 1)]
        self.assert_shows(True, Needless(1, 1, 0, 3), book, 0)
        self.assert_shows(True, Needless(1, 2, 1, 0), book, 0)
        self.assert_shows(False, Needless(0, 1, 0, 1), book, 0)
        self.assert_shows(False, Needless(1, 0, 1, 0), book, 0)
        self.assert_shows(False, Needless(0, 0, 1, 1), book, 0)

    def test_no_weight_at_all(self):
        self.assert_shows(False, Needless(1, 1, 0, 0), [(3, 4), (1, 1)], 0)

    def test_weights_below_nought(self):
        self.assert_shows(False, Needless(1, 2, -1, 3), [(9, 9), (1, 1), (2, 2)], 0)
        self.assert_shows(False, Needless(1, 2, 3, -1), [(9, 9), (1, 1), (2, 2)], 0)
        self.assert_shows(False, Needless(1, 2, -1, -1), [(1, 1), (9, 9), (9, 9)], 0)

    def test_places_that_are_none_of_the_book(self):
        book = [(9, 9), (1, 1), (2, 2)]
        for place in (-1, -2, 3, HUGE, -HUGE):
            self.assert_shows(False, Needless(place, 1, 1, 1), book, 0)
            self.assert_shows(False, Needless(1, place, 1, 1), book, 0)
            self.assert_shows(False, Needless(1, place, 1, 0), book, 0)
            self.assert_shows(False, Needless(place, 1, 0, 1), book, 0)

    def test_true_and_false_are_no_numbers(self):
        book = [(9, 9), (1, 1)]
        self.assert_shows(False, Needless(True, 1, 1, 1), book, 0)
        self.assert_shows(False, Needless(1, 1, True, False), book, 0)


class RangesShows(Shown):
    def test_every_small_case(self):
        begins = [(0, 1), (1, 2), (1, 1), (2, 1)]
        for book in [book for book in small_books() if len(book) < 3] + SOME_BOOKS:
            places = range(len(book))
            for length in (1, 2, 3):
                for held in product(begins, repeat=length - 1):
                    for turns in product(places, repeat=length):
                        asked = [(0, 1)] + list(held)
                        expected = words.ranges_hold(book, asked, list(turns))
                        self.assert_shows(expected, Ranges(asked, list(turns)), book)
        self.assert_both_seen()

    def test_begins_that_miss_by_one(self):
        self.assert_shows(True, Ranges([(0, 1), (5, 2), (5, 1)], [1, 0, 2]), BOOK)
        for begin in ((2, 1), (3, 1), (5 * HUGE - 1, 2 * HUGE), (5 * HUGE + 1, 2 * HUGE)):
            self.assert_shows(False, Ranges([(0, 1), begin, (5, 1)], [1, 0, 2]), BOOK)
        for begin in ((4, 1), (6, 1), (5 * HUGE - 1, HUGE), (5 * HUGE + 1, HUGE)):
            self.assert_shows(False, Ranges([(0, 1), (5, 2), begin], [1, 0, 2]), BOOK)
        self.assert_shows(False, Ranges([(1, HUGE), (5, 2), (5, 1)], [1, 0, 2]), BOOK)
        self.assert_shows(False, Ranges([(1, 1), (5, 2), (5, 1)], [1, 0, 2]), BOOK)

    def test_the_last_is_least_for_ever(self):
        self.assert_shows(False, Ranges([(0, 1)], [0]), [(0, 1), (HUGE, 0)])
        self.assert_shows(False, Ranges([(0, 1)], [0]), [(0, HUGE + 1), (HUGE, HUGE)])
        self.assert_shows(True, Ranges([(0, 1)], [0]), [(0, 1), (HUGE, 1)])
        self.assert_shows(False, Ranges([(0, 1), (5, 2)], [1, 0]), BOOK)

    def test_the_last_is_least_at_its_begin(self):
        self.assert_shows(False, Ranges([(0, 1)], [0]), [(5, 0), (4, 1)])
        self.assert_shows(False, Ranges([(0, 1)], [0]), [(5, 0), (4, 0)])

    def test_rising_and_unlike(self):
        like = [(2, 2), (2, 2)]
        self.assert_shows(True, Ranges([(0, 1), (1, 2)], [0, 1]), like)
        self.assert_shows(True, Ranges([(0, 1), (1, 2), (HUGE, 1)], [0, 1, 0]), like)
        self.assert_shows(False, Ranges([(0, 1), (0, 1)], [0, 1]), like)
        self.assert_shows(False, Ranges([(0, 1), (1, 2), (1, 2)], [0, 1, 0]), like)
        self.assert_shows(False, Ranges([(0, 1), (1, 2), (1, 3)], [0, 1, 0]), like)
        self.assert_shows(False, Ranges([(0, 1), (1, 2)], [0, 0]), like)
        self.assert_shows(False, Ranges([(0, 1), (1, 2), (1, 1)], [0, 1, 1]), like)

    def test_one_that_only_touches_has_no_range(self):
        book = [(1, 3), (2, 2), (3, 1)]
        self.assert_shows(True, Ranges([(0, 1), (1, 1)], [0, 2]), book)
        self.assert_shows(False, Ranges([(0, 1), (1, 1), (1, 1)], [0, 1, 2]), book)
        self.assert_shows(False, Ranges([(0, 1), (1, 1), (2, 1)], [0, 1, 2]), book)

    def test_lists_of_unlike_length_and_empty_ones(self):
        self.assert_shows(False, Ranges([], []), BOOK)
        self.assert_shows(False, Ranges([(0, 1)], []), [(1, 1)])
        self.assert_shows(False, Ranges([], [0]), [(1, 1)])
        self.assert_shows(False, Ranges([(0, 1), (5, 2)], [1, 0, 2]), BOOK)
        self.assert_shows(False, Ranges([(0, 1), (5, 2), (5, 1)], [1, 0]), BOOK)
        self.assert_shows(False, Ranges([(0, 1), (5, 2), (5, 1), (6, 1)], [1, 0, 2]), BOOK)
        self.assert_shows(False, Ranges([(0, 1), (5, 2), (5, 1)], [1, 0, 2, 0]), BOOK)

    def test_places_that_are_none_of_the_book(self):
        self.assert_shows(False, Ranges([(0, 1), (5, 2), (5, 1)], [1, 0, -1]), BOOK)
        self.assert_shows(False, Ranges([(0, 1), (5, 2), (5, 1)], [-2, 0, 2]), BOOK)
        self.assert_shows(False, Ranges([(0, 1), (5, 2), (5, 1)], [1, 3, 2]), BOOK)
        for place in (-1, 1, HUGE, -HUGE, True, False):
            self.assert_shows(False, Ranges([(0, 1)], [place]), [(1, 1)])

    def test_begins_that_are_no_amounts(self):
        self.assert_shows(False, Ranges([(0, 2)], [0]), [(1, 1)])
        self.assert_shows(False, Ranges([0], [0]), [(1, 1)])
        self.assert_shows(False, Ranges([(0, 1), (2, 4)], [0, 1]), [(2, 2), (2, 2)])
        self.assert_shows(False, Ranges([(False, True)], [0]), [(1, 1)])


class UnderShows(Shown):
    def test_every_small_case(self):
        for one in [book for book in small_books() if len(book) < 3][:30] + SOME_BOOKS[:10]:
            places = range(-1, len(one) + 1)
            for row in product(places, places, (-1, 0, 1, 3), (-1, 0, 2)):
                for tariff in ((0, 0), (1, 1), (2, 2), (0, 9), (4, 0)):
                    self.assert_shows(words.is_mixture(one, tariff, row), Under([row]), one, [tariff])
        self.assert_both_seen()

    def test_each_row_in_turn(self):
        one = [(10, 0), (0, 15)]
        other = [(4, 9), (10, 0), (1, 15)]
        rows = [(0, 1, 2, 3), (0, 0, 1, 0), (1, 1, 0, 1)]
        self.assert_shows(True, Under(rows), one, other)
        self.assert_shows(False, Under([rows[1], rows[0], rows[2]]), one, other)
        self.assert_shows(False, Under([rows[0], rows[2], rows[1]]), one, other)
        rows = [(0, 1, 2, 3)] * 3
        self.assert_shows(True, Under(rows), one, [(4, 9)] * 3)
        for k in range(3):
            self.assert_shows(False, Under(rows[:k] + [(0, 1, 2, 4)] + rows[k + 1:]), one, [(4, 9)] * 3)

    def test_tariffs_that_miss_by_one(self):
        one = [(10 * HUGE, 0), (0, 15 * HUGE)]
        self.assert_shows(True, Under([(0, 1, 2, 3)]), one, [(4 * HUGE, 9 * HUGE)])
        self.assert_shows(False, Under([(0, 1, 2, 3)]), one, [(4 * HUGE - 1, 9 * HUGE)])
        self.assert_shows(False, Under([(0, 1, 2, 3)]), one, [(4 * HUGE, 9 * HUGE - 1)])
        self.assert_shows(False, Under([(0, 1, 3, 2)]), one, [(4 * HUGE, 9 * HUGE)])

    def test_lists_of_unlike_length(self):
        row = (0, 0, 1, 0)
        self.assert_shows(True, Under([row, row]), [(1, 1)], [(1, 1), (2, 2)])
        self.assert_shows(False, Under([]), [(1, 1)], [(1, 1)])
        self.assert_shows(False, Under([row]), [(1, 1)], [(1, 1), (2, 2)])
        self.assert_shows(False, Under([row, row, row]), [(1, 1)], [(1, 1), (2, 2)])

    def test_places_are_those_of_the_first_book(self):
        self.assert_shows(False, Under([(1, 1, 1, 0)]), [(1, 1)], [(2, 2)])
        self.assert_shows(False, Under([(0, 1, 1, 0), (0, 1, 1, 0)]), [(1, 1)], [(2, 2), (3, 3)])
        self.assert_shows(False, Under([(-1, 0, 1, 0)]), [(1, 1)], [(2, 2)])
        self.assert_shows(True, Under([(1, 1, 1, 0)]), [(9, 9), (1, 1)], [(2, 2)])

    def test_rows_that_are_no_quadruples_of_numbers(self):
        for row in ((0, 0, 1), (0, 0, 1, 0, 0), (), 1, (0, 1), (False, 0, 1, 0), (0, 0, True, 0),
                    ((0, 1), (0, 1), (1, 1), (1, 1))):
            self.assert_shows(False, Under([row]), [(1, 1)], [(1, 1)])


class OverShows(Shown):
    def test_every_small_case(self):
        books = [book for book in small_books() if len(book) < 3][::3] + SOME_BOOKS[:20]
        for one, other in product(books, books):
            for amount in AMOUNTS[::2]:
                self.assert_shows(words.over_holds(one, other, amount), Over(amount), one, other)
        self.assert_both_seen()

    def test_numbers_that_miss_by_one(self):
        self.assert_shows(False, Over((1, HUGE)), [(1, 0)], [(0, HUGE)])
        self.assert_shows(True, Over((1, HUGE)), [(1, 0)], [(0, HUGE - 1)])
        self.assert_shows(False, Over((1, HUGE)), [(1, 0)], [(0, HUGE + 1)])
        self.assert_shows(True, Over((1, HUGE)), [(HUGE, 0)], [(0, HUGE + 1)])

    def test_each_of_the_first_costs_more(self):
        self.assert_shows(False, Over((1, 1)), [(9, 9), (1, 1)], [(1, 1), (8, 8)])
        self.assert_shows(True, Over((1, 1)), [(9, 9), (1, 2)], [(8, 8), (1, 1)])
        self.assert_shows(False, Over((1, 1)), [(1, 1), (9, 9)], [(5, 5)])

    def test_a_field_that_is_no_amount(self):
        for amount in ((2, 4), (0, 2), (1, 0), 3, (-1, 2)):
            self.assert_shows(False, Over(amount), [(4, 4)], [(0, 0)])


class MostShows(Shown):
    def test_every_small_case(self):
        for book in small_books() + SOME_BOOKS:
            for place, amount in product(range(-1, len(book) + 1), AMOUNTS):
                for money in (0, 1, 2, 3, 5):
                    expected = words.most_holds(book, money, place, amount)
                    self.assert_shows(expected, Most(place, amount), book, money)
        self.assert_both_seen()

    def test_money_and_amounts_that_miss_by_one(self):
        self.assert_shows(True, Most(0, (14, 3)), BOOK, 24)
        self.assert_shows(False, Most(0, (14, 3)), BOOK, 23)
        self.assert_shows(False, Most(0, (14, 3)), BOOK, 25)
        self.assert_shows(False, Most(0, (13, 3)), BOOK, 24)
        self.assert_shows(False, Most(0, (5, 1)), BOOK, 24)
        self.assert_shows(False, Most(1, (14, 3)), BOOK, 24)
        self.assert_shows(True, Most(0, (HUGE, 1)), [(0, 1)], HUGE)
        self.assert_shows(False, Most(0, (HUGE + 1, 1)), [(0, 1)], HUGE)
        self.assert_shows(False, Most(0, (HUGE - 1, 1)), [(0, 1)], HUGE)

    def test_one_costs_less(self):
        self.assert_shows(False, Most(1, (24, 7)), BOOK, 24)
        self.assert_shows(False, Most(0, (1, 1)), [(HUGE, 1), (HUGE, 0)], HUGE + 1)

    def test_one_that_costs_just_the_money_costs_nothing_by_the_piece(self):
        self.assert_shows(False, Most(0, (5, 1)), BOOK, 25)
        self.assert_shows(False, Most(2, (5, 1)), BOOK, 25)
        self.assert_shows(False, Most(0, (1, 1)), [(5, 0)], 5)
        self.assert_shows(True, Most(0, (5, 1)), [(10, 3), (0, 7), (26, 0)], 25)

    def test_places_that_are_none_of_the_book(self):
        for place in (-1, 1, HUGE, -HUGE, False):
            self.assert_shows(False, Most(place, (2, 1)), [(1, 1)], 3)
        self.assert_shows(True, Most(0, (2, 1)), [(1, 1)], 3)

    def test_a_field_that_is_no_amount(self):
        for amount in ((4, 2), 2, (2, True), (-2, -1)):
            self.assert_shows(False, Most(0, amount), [(1, 1)], 3)


class EndlessShows(Shown):
    def test_every_small_case(self):
        for book in small_books() + SOME_BOOKS:
            for place, money in product(range(-1, len(book) + 1), (0, 1, 2, 3, 25)):
                self.assert_shows(words.endless_holds(book, money, place), Endless(place), book, money)
        self.assert_both_seen()

    def test_numbers_that_miss_by_one(self):
        self.assert_shows(True, Endless(2), BOOK, 25)
        self.assert_shows(False, Endless(2), BOOK, 24)
        self.assert_shows(True, Endless(2), BOOK, HUGE)
        self.assert_shows(False, Endless(0), [(0, 1)], HUGE)
        self.assert_shows(True, Endless(0), [(HUGE, 0)], HUGE)
        self.assert_shows(False, Endless(0), [(HUGE + 1, 0)], HUGE)

    def test_places_that_are_none_of_the_book(self):
        for place in (-1, 3, HUGE, -HUGE, (0, 1)):
            self.assert_shows(False, Endless(place), BOOK, 25)
        self.assert_shows(False, Endless(False), [(0, 0)], 25)


class DearShows(Shown):
    def test_every_small_case(self):
        for book in small_books() + SOME_BOOKS:
            for money in (0, 1, 2, 3, 25):
                self.assert_shows(words.dear_holds(book, money), Dear(), book, money)
        self.assert_both_seen()

    def test_numbers_that_miss_by_one(self):
        self.assert_shows(True, Dear(), [(HUGE + 1, 0), (HUGE + 2, 5)], HUGE)
        self.assert_shows(False, Dear(), [(HUGE + 1, 0), (HUGE, 5)], HUGE)
        self.assert_shows(False, Dear(), [(HUGE, 5), (HUGE + 1, 0)], HUGE)


class AnswersToldForOthers(Shown):
    """What is told of one book is held against another one too."""

    def test_of_every_two_books(self):
        for one, other in product(SOME_BOOKS[::2], SOME_BOOKS):
            told = ranges(one)
            self.assert_shows(words.ranges_hold(other, told.begins, told.places), told, other)
            told = alone(one, 0)
            check = words.alone_holds if type(told) is Alone else words.needless_holds
            self.assert_shows(check(other, 0, **vars(told)), told, other, 0)
            told = under(one, other)
            check = words.under_holds if type(told) is Under else words.over_holds
            self.assert_shows(check(other, one, **vars(told)), told, other, one)
            told = most(one, 3)
            check = {Most: words.most_holds, Endless: words.endless_holds, Dear: words.dear_holds}[type(told)]
            self.assert_shows(check(other, 3, **vars(told)), told, other, 3)
        self.assert_both_seen()


class FieldsAsTheyStandThen(Shown):
    def test_fields_given_anew(self):
        answer = Alone((5, 2))
        self.assert_shows(False, answer, BOOK, 0)
        answer.amount = (3, 1)
        self.assert_shows(True, answer, BOOK, 0)
        answer = Over((0, 1))
        self.assert_shows(False, answer, BOOK, [(0, 1)])
        answer.amount = (1, 1)
        self.assert_shows(True, answer, BOOK, [(0, 1)])
        answer = Endless(0)
        self.assert_shows(False, answer, BOOK, 30)
        answer.place = 2
        self.assert_shows(True, answer, BOOK, 30)

    def test_each_field_of_needless_and_most(self):
        book = [(10, 0), (0, 15), (4, 9)]
        answer = Needless(0, 1, 2, 3)
        for name, wrong in (("one", 1), ("other", 0), ("first", 1), ("second", 4), ("one", 2), ("other", 2)):
            right = getattr(answer, name)
            setattr(answer, name, wrong)
            self.assert_shows(False, answer, book, 2)
            setattr(answer, name, right)
            self.assert_shows(True, answer, book, 2)
        answer = Most(0, (14, 3))
        for name, wrong in (("place", 1), ("amount", (14, 5))):
            right = getattr(answer, name)
            setattr(answer, name, wrong)
            self.assert_shows(False, answer, BOOK, 24)
            setattr(answer, name, right)
            self.assert_shows(True, answer, BOOK, 24)

    def test_lists_of_an_answer_changed(self):
        answer = ranges(BOOK)
        answer.begins[1] = (2, 1)
        self.assert_shows(False, answer, BOOK)
        answer.begins[1] = (5, 2)
        self.assert_shows(True, answer, BOOK)
        answer.places.pop()
        self.assert_shows(False, answer, BOOK)
        answer.places = [1, 0, 2]
        self.assert_shows(True, answer, BOOK)
        answer = under(BOOK, BOOK)
        answer.rows.pop()
        self.assert_shows(False, answer, BOOK, BOOK)
        self.assert_shows(True, answer, BOOK, BOOK[:2])
        answer.rows.append((2, 2, 5, 0))
        self.assert_shows(True, answer, BOOK, BOOK)

    def test_lists_handed_in_changed_after(self):
        begins = [(0, 1), (5, 2), (5, 1)]
        places = [1, 0, 2]
        answer = Ranges(begins, places)
        begins.clear()
        places[0] = 0
        self.assertEqual((answer.begins, answer.places), ([(0, 1), (5, 2), (5, 1)], [1, 0, 2]))
        self.assert_shows(True, answer, BOOK)
        rows = [(0, 0, 1, 0)]
        answer = Under(rows)
        rows.append((0, 0, 1, 0))
        self.assertEqual(answer.rows, [(0, 0, 1, 0)])
        self.assert_shows(True, answer, [(1, 1)], [(1, 1)])

    def test_lists_of_an_answer_changed_leave_those_handed_in(self):
        begins = [(0, 1)]
        places = [0]
        rows = [(0, 0, 1, 0)]
        answer = Ranges(begins, places)
        answer.begins.append((1, 1))
        answer.places.append(1)
        Under(rows).rows.clear()
        self.assertEqual((begins, places, rows), ([(0, 1)], [0], [(0, 0, 1, 0)]))

    def test_book_changed_after(self):
        book = list(BOOK)
        answer = ranges(book)
        self.assert_shows(True, answer, book)
        book[0] = (0, 0)
        self.assert_shows(False, answer, book)


def every_answer():
    return [
        (Alone((3, 1)), (BOOK, 0)),
        (Alone((5, 2)), (BOOK, 0)),
        (Needless(0, 1, 2, 3), ([(10, 0), (0, 15), (4, 9)], 2)),
        (Needless(0, 9, 2, -3), (BOOK, 2)),
        (Ranges([(0, 1), (5, 2), (5, 1)], [1, 0, 2]), (BOOK,)),
        (Ranges([(5, 1), (5, 2)], [1, 0, 2]), (BOOK,)),
        (Under([(0, 0, 1, 0), (1, 1, 1, 0), (2, 2, 1, 0)]), (BOOK, list(BOOK))),
        (Under([(0, 0, 1, 0)]), (BOOK, list(BOOK))),
        (Over((1, 1)), (BOOK, [(0, 1)])),
        (Over((0, 1)), (BOOK, [(0, 1)])),
        (Most(0, (14, 3)), (BOOK, 24)),
        (Most(1, (14, 3)), (BOOK, 24)),
        (Endless(2), (BOOK, 25)),
        (Endless(0), (BOOK, 25)),
        (Dear(), ([(1, 1)], 0)),
        (Dear(), (BOOK, 25)),
    ]


class NothingChangedOrKept(unittest.TestCase):
    def test_shows_leaves_the_answer_and_the_asked_as_they_were(self):
        for answer, asked in every_answer():
            before = copy.deepcopy((vars(answer), asked))
            first = answer.shows(*asked)
            self.assertEqual((vars(answer), asked), before)
            self.assertIs(answer.shows(*asked), first)

    def test_making_an_answer_leaves_the_lists_as_they_were(self):
        begins = [(5, 1), (0, 1), (5, 1)]
        places = [2, 2, 0]
        rows = [(2, 1, 0, 0), (0, 0, 1, 0)]
        Ranges(begins, places)
        Under(rows)
        self.assertEqual((begins, places, rows), ([(5, 1), (0, 1), (5, 1)], [2, 2, 0], [(2, 1, 0, 0), (0, 0, 1, 0)]))

    def test_books_asked_with_are_not_kept(self):
        for answer, asked in every_answer():
            asked = [KeptList(one) if isinstance(one, list) else one for one in asked]
            watched = [weakref.ref(one) for one in asked if isinstance(one, list)]
            answer.shows(*asked)
            del asked
            gc.collect()
            self.assertEqual([one() for one in watched], [None] * len(watched))

    def test_lists_made_with_are_not_kept(self):
        lists = [KeptList([(0, 1)]), KeptList([0]), KeptList([(0, 0, 1, 0)])]
        watched = [weakref.ref(one) for one in lists]
        held = [Ranges(lists[0], lists[1]), Under(lists[2])]
        self.assertIs(held[0].shows([(1, 1)]), True)
        del lists
        gc.collect()
        self.assertEqual([one() for one in watched], [None] * 3)

    def test_two_answers_share_no_list(self):
        one = Ranges([(0, 1)], [0])
        other = Ranges(one.begins, one.places)
        one.begins.clear()
        one.places.clear()
        self.assertEqual((other.begins, other.places), ([(0, 1)], [0]))


if __name__ == "__main__":
    unittest.main()
