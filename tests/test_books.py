import copy
import gc
import inspect
import unittest
import weakref
from fractions import Fraction
from math import gcd

from leasttariff.books import cheapest, cost
from leasttariff.errors import BadAmount, BadBook, BadPlace
from told import KeptList, Told
from wrong_values import HUGE, NO_AMOUNTS, NO_BOOKS, no_places

BOOK = [(10, 3), (0, 7), (25, 0)]
GOOD_BOOKS = [[(0, 0)], [(4, 1)], BOOK, [(1, 1)] * 5]
AMOUNTS = [
    (upper, lower) for lower in range(1, 8) for upper in range(0, 15) if gcd(upper, lower) == 1
]


def small_books():
    tariffs = [(0, 0), (0, 2), (1, 1), (3, 0), (2, 6), (6, 4)]
    books = [[one] for one in tariffs]
    books += [[one, other] for one in tariffs for other in tariffs]
    books += [[one, other, third] for one in tariffs for other in tariffs for third in tariffs]
    return books


def as_fraction(tariff, amount):
    return tariff[0] + tariff[1] * Fraction(amount[0], amount[1])


class Cost(Told):
    def test_parameters_are_named_as_told(self):
        self.assertEqual(list(inspect.signature(cost).parameters), ["book", "place", "amount"])
        self.assert_fraction(cost(book=BOOK, place=0, amount=(1, 1)), (13, 1))

    def test_none_costs_what_is_asked_at_once(self):
        self.assert_fraction(cost(BOOK, 0, (0, 1)), (10, 1))
        self.assert_fraction(cost(BOOK, 1, (0, 1)), (0, 1))
        self.assert_fraction(cost(BOOK, 2, (0, 1)), (25, 1))

    def test_whole_amounts(self):
        self.assert_fraction(cost(BOOK, 0, (1, 1)), (13, 1))
        self.assert_fraction(cost(BOOK, 0, (4, 1)), (22, 1))
        self.assert_fraction(cost(BOOK, 1, (4, 1)), (28, 1))
        self.assert_fraction(cost(BOOK, 2, (4, 1)), (25, 1))

    def test_broken_amounts(self):
        self.assert_fraction(cost(BOOK, 0, (1, 2)), (23, 2))
        self.assert_fraction(cost(BOOK, 1, (5, 3)), (35, 3))
        self.assert_fraction(cost(BOOK, 0, (5, 7)), (85, 7))

    def test_sum_that_shortens(self):
        self.assert_fraction(cost([(1, 6)], 0, (1, 4)), (5, 2))
        self.assert_fraction(cost([(1, 4)], 0, (1, 2)), (3, 1))
        self.assert_fraction(cost(BOOK, 0, (1, 3)), (11, 1))
        self.assert_fraction(cost(BOOK, 2, (5, 9)), (25, 1))
        self.assert_fraction(cost([(0, 30)], 0, (7, 12)), (35, 2))

    def test_cost_of_nothing(self):
        self.assert_fraction(cost([(0, 0)], 0, (0, 1)), (0, 1))
        self.assert_fraction(cost([(0, 0)], 0, (9, 1)), (0, 1))
        self.assert_fraction(cost([(0, 0)], 0, (9, 4)), (0, 1))
        self.assert_fraction(cost([(0, 8)], 0, (0, 1)), (0, 1))
        self.assert_fraction(cost([(0, 0)], 0, (1, HUGE)), (0, 1))

    def test_first_and_last_place(self):
        book = [(place, 2 * place + 1) for place in range(300)]
        self.assert_fraction(cost(book, 0, (1, 2)), (1, 2))
        self.assert_fraction(cost(book, 150, (1, 2)), (601, 2))
        self.assert_fraction(cost(book, 299, (1, 2)), (1197, 2))

    def test_numbers_of_hundreds_of_figures(self):
        at_once = 10 ** 400 + 7
        by_piece = 3 ** 900
        amount = (5 ** 500, 2 ** 700)
        expected = as_fraction((at_once, by_piece), amount)
        self.assert_fraction(
            cost([(1, 1), (at_once, by_piece)], 1, amount), (expected.numerator, expected.denominator)
        )
        self.assert_fraction(cost([(1, 3 * 10 ** 500)], 0, (7, 10 ** 500)), (22, 1))
        self.assert_fraction(cost([(HUGE, HUGE)], 0, (HUGE, 1)), (HUGE + HUGE * HUGE, 1))
        self.assert_fraction(cost([(0, 1)], 0, (1, HUGE)), (1, HUGE))

    def test_every_small_case(self):
        for book in small_books():
            for place, tariff in enumerate(book):
                for amount in AMOUNTS:
                    expected = as_fraction(tariff, amount)
                    self.assert_fraction(cost(book, place, amount), (expected.numerator, expected.denominator))

    def test_refuses_what_is_no_book(self):
        for bad in NO_BOOKS:
            self.assert_refused(BadBook, cost, bad, 0, (1, 2))

    def test_refuses_what_is_no_place(self):
        for book in GOOD_BOOKS:
            for bad in no_places(book):
                self.assert_refused(BadPlace, cost, book, bad, (1, 2))

    def test_refuses_what_is_no_amount(self):
        for bad in NO_AMOUNTS:
            self.assert_refused(BadAmount, cost, BOOK, 0, bad)
            self.assert_refused(BadAmount, cost, [(0, 0)], 0, bad)

    def test_bad_book_is_told_before_all_else(self):
        for book in NO_BOOKS:
            self.assert_refused(BadBook, cost, book, -1, (1, 2))
            self.assert_refused(BadBook, cost, book, None, (1, 2))
            self.assert_refused(BadBook, cost, book, 0, (2, 4))
            self.assert_refused(BadBook, cost, book, True, None)

    def test_bad_place_is_told_before_bad_amount(self):
        for place in no_places(BOOK):
            self.assert_refused(BadPlace, cost, BOOK, place, (2, 4))
            self.assert_refused(BadPlace, cost, BOOK, place, None)
        for amount in NO_AMOUNTS:
            self.assert_refused(BadPlace, cost, BOOK, 3, amount)


class Cheapest(Told):
    def assert_cheapest(self, told, place, least):
        self.assertIs(type(told), tuple)
        self.assertEqual(len(told), 2)
        self.assertIs(type(told[0]), int)
        self.assertEqual(told[0], place)
        self.assert_fraction(told[1], least)

    def test_parameters_are_named_as_told(self):
        self.assertEqual(list(inspect.signature(cheapest).parameters), ["book", "amount"])
        self.assert_cheapest(cheapest(book=BOOK, amount=(1, 1)), 1, (7, 1))

    def test_each_is_cheapest_somewhere(self):
        self.assert_cheapest(cheapest(BOOK, (0, 1)), 1, (0, 1))
        self.assert_cheapest(cheapest(BOOK, (7, 3)), 1, (49, 3))
        self.assert_cheapest(cheapest(BOOK, (8, 3)), 0, (18, 1))
        self.assert_cheapest(cheapest(BOOK, (19, 4)), 0, (97, 4))
        self.assert_cheapest(cheapest(BOOK, (6, 1)), 2, (25, 1))

    def test_first_of_several_that_cost_the_same(self):
        self.assert_cheapest(cheapest(BOOK, (5, 2)), 0, (35, 2))
        self.assert_cheapest(cheapest(BOOK, (5, 1)), 0, (25, 1))
        self.assert_cheapest(cheapest([(9, 9), (3, 1), (2, 2), (1, 3)], (1, 1)), 1, (4, 1))
        self.assert_cheapest(cheapest([(9, 9), (1, 3), (2, 2), (3, 1)], (1, 1)), 1, (4, 1))
        self.assert_cheapest(cheapest([(2, 2)] * 7, (3, 5)), 0, (16, 5))
        self.assert_cheapest(cheapest([(9, 9), (2, 2), (9, 9), (2, 2)], (3, 5)), 1, (16, 5))

    def test_cheapest_is_the_first_or_the_last_of_the_book(self):
        book = [(1, 0), (2, 1), (3, 3)]
        self.assert_cheapest(cheapest(book, (1, 2)), 0, (1, 1))
        self.assert_cheapest(cheapest(book[::-1], (1, 2)), 2, (1, 1))
        self.assert_cheapest(cheapest([(1, 0), (5, 5), (1, 0)], (1, 2)), 0, (1, 1))
        self.assert_cheapest(cheapest([(5, 5), (1, 0), (1, 0)], (1, 2)), 1, (1, 1))

    def test_book_of_one(self):
        self.assert_cheapest(cheapest([(4, 6)], (1, 4)), 0, (11, 2))
        self.assert_cheapest(cheapest([(0, 0)], (3, 4)), 0, (0, 1))

    def test_book_of_many(self):
        book = [((place - 700) ** 2, 1) for place in range(1000)]
        self.assert_cheapest(cheapest(book, (2, 3)), 700, (2, 3))

    def test_numbers_of_any_size(self):
        book = [(HUGE + 2, 0), (0, HUGE + 1), (1, HUGE)]
        self.assert_cheapest(cheapest(book, (1, 1)), 1, (HUGE + 1, 1))
        self.assert_cheapest(cheapest(book, (2, 1)), 0, (HUGE + 2, 1))
        self.assert_cheapest(cheapest(book, (HUGE - 1, HUGE)), 1, ((HUGE + 1) * (HUGE - 1), HUGE))
        self.assert_cheapest(cheapest(book, (HUGE + 1, HUGE)), 0, (HUGE + 2, 1))
        self.assert_cheapest(cheapest(book[1:], (HUGE + 1, HUGE)), 1, (HUGE + 2, 1))
        # Closer together than any rounded number could tell.
        self.assert_cheapest(cheapest([(1, 1), (1, 0)], (1, HUGE)), 1, (1, 1))
        self.assert_cheapest(cheapest([(10 ** 300 + 1, 0), (10 ** 300, 0)], (1, 3)), 1, (10 ** 300, 1))

    def test_every_small_case(self):
        for book in small_books():
            for amount in AMOUNTS:
                costs = [as_fraction(tariff, amount) for tariff in book]
                least = min(costs)
                self.assert_cheapest(
                    cheapest(book, amount), costs.index(least), (least.numerator, least.denominator)
                )

    def test_refuses_what_is_no_book(self):
        for bad in NO_BOOKS:
            self.assert_refused(BadBook, cheapest, bad, (1, 2))

    def test_refuses_what_is_no_amount(self):
        for bad in NO_AMOUNTS:
            self.assert_refused(BadAmount, cheapest, BOOK, bad)
            self.assert_refused(BadAmount, cheapest, [(0, 0)], bad)

    def test_bad_book_is_told_before_bad_amount(self):
        for book in NO_BOOKS:
            self.assert_refused(BadBook, cheapest, book, (2, 4))
            self.assert_refused(BadBook, cheapest, book, None)
        for amount in NO_AMOUNTS:
            self.assert_refused(BadBook, cheapest, [], amount)


class NothingChangedOrKept(Told):
    def assert_left_alone(self, book, function, *others):
        members = list(book)
        before = copy.deepcopy(book)
        try:
            function(book, *others)
        except ValueError:
            pass
        self.assertEqual(book, before)
        self.assertEqual([id(member) for member in book], [id(member) for member in members])

    def test_book_stays_as_it_was(self):
        book = [(4, 1), (1, 4), (0, 9), (1, 4), (9, 0)]
        for amount in ((0, 1), (1, 2), (3, 1), (2, 4), None):
            self.assert_left_alone(book, cheapest, amount)
            for place in (0, 2, 4, 5, -1, True):
                self.assert_left_alone(book, cost, place, amount)

    def test_what_is_no_book_stays_as_it_was(self):
        for book in ([], [(1, 2), [3, 4]], [(1, 2), (3,)], [(5, 1), (2, -2), (1, 1)], [(2, 4), True]):
            self.assert_left_alone(book, cheapest, (1, 2))
            self.assert_left_alone(book, cost, 0, (1, 2))

    def test_what_is_no_amount_or_place_stays_as_it_was(self):
        wrong = [4, 2]
        self.assert_refused(BadAmount, cheapest, BOOK, wrong)
        self.assert_refused(BadAmount, cost, BOOK, 0, wrong)
        self.assert_refused(BadPlace, cost, BOOK, wrong, (1, 2))
        self.assertEqual(wrong, [4, 2])

    def test_changed_book_is_asked_anew(self):
        book = [(4, 1), (1, 4)]
        self.assertEqual(cheapest(book, (0, 1)), (1, (1, 1)))
        self.assertEqual(cost(book, 1, (1, 1)), (5, 1))
        book[1] = (8, 8)
        self.assertEqual(cheapest(book, (0, 1)), (0, (4, 1)))
        self.assertEqual(cost(book, 1, (1, 1)), (16, 1))
        book.append((0, 0))
        self.assertEqual(cheapest(book, (0, 1)), (2, (0, 1)))
        self.assertEqual(cost(book, 2, (1, 1)), (0, 1))

    def test_book_is_not_kept(self):
        book = KeptList([(4, 1), (1, 4)])
        watched = weakref.ref(book)
        cheapest(book, (1, 2))
        cost(book, 1, (1, 2))
        self.assert_refused(BadAmount, cheapest, book, (2, 2))
        del book
        gc.collect()
        self.assertIsNone(watched())

    def test_what_is_told_is_new(self):
        amount = tuple([3, 2])
        self.assertIsNot(cost([(0, 1)], 0, amount), amount)
        self.assertIsNot(cheapest([(0, 1)], amount)[1], amount)
        tariff = tuple([1, 1])
        self.assertIsNot(cost([tariff], 0, (0, 1)), tariff)
        self.assertIsNot(cheapest([tariff], (0, 1))[1], tariff)


if __name__ == "__main__":
    unittest.main()
