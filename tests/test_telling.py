import copy
import gc
import inspect
import unittest
import weakref
from fractions import Fraction

import by_the_words as words
from books_to_ask import EDGES, LARGE, books_to_ask, curved, pairs_to_ask
from leasttariff.answers import Alone, Dear, Endless, Most, Needless, Over, Ranges, Under
from leasttariff.errors import BadBook, BadMoney, BadPlace
from leasttariff.telling import alone, most, ranges, under
from told import KeptList, Told
from wrong_values import HUGE, NO_BOOKS, NO_COUNTS, NO_TARIFFS, no_places

BOOK = [(10, 3), (0, 7), (25, 0)]
GOOD_BOOKS = [[(0, 0)], [(4, 1)], BOOK, [(1, 1)] * 5]


class AloneOrNeedless(Told):
    def assert_told(self, book, place, expected=None):
        told = alone(book, place)
        fields = vars(told)
        if type(told) is Alone:
            self.assertEqual(list(fields), ["amount"])
            self.assertTrue(words.alone_holds(book, place, **fields))
        else:
            self.assertIs(type(told), Needless)
            self.assertEqual(sorted(fields), ["first", "one", "other", "second"])
            self.assertTrue(words.needless_holds(book, place, **fields))
        self.assertIs(told.shows(book, place), True)
        if expected is not None:
            self.assertIs(type(told), expected)

    def is_alone_somewhere(self, book, place):
        others = book[:place] + book[place + 1:]
        return any(
            all(words.price(other, amount) > words.price(book[place], amount) for other in others)
            for amount in words.telling_amounts(book)
        )

    def test_parameters_are_named_as_told(self):
        self.assertEqual(list(inspect.signature(alone).parameters), ["book", "place"])
        self.assertIs(type(alone(book=BOOK, place=1)), Alone)

    def test_each_of_a_book_of_needed_ones(self):
        for place in range(3):
            self.assert_told(BOOK, place, Alone)

    def test_book_of_one(self):
        for book in ([(0, 0)], [(4, 0)], [(0, 4)], [(HUGE, HUGE)]):
            self.assert_told(book, 0, Alone)

    def test_like_tariffs_are_needless(self):
        for place in (0, 1):
            self.assert_told([(3, 4), (3, 4)], place, Needless)
            self.assert_told([(0, 0), (0, 0)], place, Needless)
            self.assert_told([(3, 4), (3, 4), (9, 0)], place, Needless)
        self.assert_told([(3, 4), (3, 4), (9, 0)], 2, Alone)

    def test_alike_in_one_of_the_two(self):
        self.assert_told([(3, 4), (3, 5)], 0, Alone)
        self.assert_told([(3, 4), (3, 5)], 1, Needless)
        self.assert_told([(3, 4), (2, 4)], 0, Needless)
        self.assert_told([(3, 4), (2, 4)], 1, Alone)

    def test_needed_only_beyond_every_other(self):
        self.assert_told([(9, 1), (0, 2), (0, 3)], 0, Alone)
        self.assert_told([(HUGE, 0), (0, 1), (1, 1)], 0, Alone)

    def test_three_that_meet_in_one(self):
        self.assert_told([(3, 1), (2, 2), (1, 3)], 1, Needless)
        self.assert_told([(3, 1), (2, 2), (1, 3)], 0, Alone)
        self.assert_told([(3, 1), (2, 2), (1, 3)], 2, Alone)

    def test_beneath_and_above_the_meeting_by_one(self):
        self.assert_told([(1, 2 * HUGE + 1), (HUGE, HUGE + 1), (2 * HUGE + 1, 1)], 1, Alone)
        self.assert_told([(1, 2 * HUGE + 1), (HUGE + 1, HUGE + 1), (2 * HUGE + 1, 1)], 1, Needless)
        self.assert_told([(1, 2 * HUGE + 1), (HUGE + 2, HUGE + 1), (2 * HUGE + 1, 1)], 1, Needless)

    def test_every_place_of_every_book_to_ask(self):
        for book in books_to_ask():
            for place in range(len(book)):
                expected = Alone if self.is_alone_somewhere(book, place) else Needless
                self.assert_told(book, place, expected)

    def test_long_book(self):
        book = curved(300)
        for place in range(0, 300, 7):
            self.assert_told(book, place, Alone)
        # Just on the curve between two of its corners, and one above it.
        for tariff in [((k * k + (k + 2) ** 2) // 2, 2 * (300 - k - 1)) for k in (0, 1, 150, 296)]:
            self.assert_told(book + [tariff], 300, Needless)
            self.assert_told(book + [(tariff[0] + 1, tariff[1])], 300, Needless)

    def test_refuses_what_is_no_book(self):
        for bad in NO_BOOKS:
            self.assert_refused(BadBook, alone, bad, 0)

    def test_refuses_what_is_no_place(self):
        for book in GOOD_BOOKS:
            for bad in no_places(book):
                self.assert_refused(BadPlace, alone, book, bad)

    def test_bad_book_is_told_before_bad_place(self):
        for book in NO_BOOKS:
            self.assert_refused(BadBook, alone, book, -1)
            self.assert_refused(BadBook, alone, book, None)
        for place in no_places(BOOK):
            self.assert_refused(BadBook, alone, [], place)


class RangesTold(Told):
    def assert_told(self, book):
        told = ranges(book)
        self.assertIs(type(told), Ranges)
        self.assertEqual(sorted(vars(told)), ["begins", "places"])
        self.assertIs(type(told.begins), list)
        self.assertIs(type(told.places), list)
        self.assertTrue(words.ranges_hold(book, told.begins, told.places))
        self.assertIs(told.shows(book), True)
        return told

    def test_parameters_are_named_as_told(self):
        self.assertEqual(list(inspect.signature(ranges).parameters), ["book"])
        self.assertIs(type(ranges(book=BOOK)), Ranges)

    def test_each_is_cheapest_somewhere(self):
        told = self.assert_told(BOOK)
        self.assertEqual(told.begins, [(0, 1), (5, 2), (5, 1)])
        self.assertEqual(told.places, [1, 0, 2])

    def test_book_of_one(self):
        for book in ([(0, 0)], [(4, 0)], [(0, 4)], [(HUGE, HUGE)]):
            told = self.assert_told(book)
            self.assertEqual((told.begins, told.places), ([(0, 1)], [0]))

    def test_one_that_is_never_needed_is_left_out(self):
        told = self.assert_told([(1, 4), (3, 3), (4, 1)])
        self.assertEqual((told.begins, told.places), ([(0, 1), (1, 1)], [0, 2]))

    def test_begins_are_in_lowest_terms(self):
        told = self.assert_told([(0, 12), (6, 4)])
        self.assertEqual((told.begins, told.places), ([(0, 1), (3, 4)], [0, 1]))

    def test_alike_at_once_the_dearer_by_the_piece_has_no_range(self):
        told = self.assert_told([(2, 5), (2, 3), (2, 4)])
        self.assertEqual((told.begins, told.places), ([(0, 1)], [1]))

    def test_every_book_to_ask(self):
        for book in books_to_ask():
            self.assert_told(book)

    def test_long_book(self):
        told = ranges(curved(400))
        self.assertEqual(len(told.places), 400)
        self.assertIs(told.shows(curved(400)), True)
        self.assertEqual(told.begins, [(0, 1)] + [(2 * k + 1, 2) for k in range(399)])
        self.assertEqual([curved(400)[place] for place in told.places], [(k * k, 2 * (400 - k)) for k in range(400)])

    def test_refuses_what_is_no_book(self):
        for bad in NO_BOOKS:
            self.assert_refused(BadBook, ranges, bad)


class UnderOrOver(Told):
    def assert_told(self, one, other, expected=None):
        told = under(one, other)
        if type(told) is Under:
            self.assertEqual(list(vars(told)), ["rows"])
            self.assertIs(type(told.rows), list)
            self.assertTrue(words.under_holds(one, other, told.rows))
        else:
            self.assertIs(type(told), Over)
            self.assertEqual(list(vars(told)), ["amount"])
            self.assertTrue(words.over_holds(one, other, told.amount))
        self.assertIs(told.shows(one, other), True)
        if expected is not None:
            self.assertIs(type(told), expected)

    def is_over_somewhere(self, one, other):
        return any(
            min(words.price(tariff, amount) for tariff in one) > min(words.price(tariff, amount) for tariff in other)
            for amount in words.telling_amounts(one + other)
        )

    def test_parameters_are_named_as_told(self):
        self.assertEqual(list(inspect.signature(under).parameters), ["one", "other"])
        self.assertIs(type(under(one=BOOK, other=[(0, 7)])), Under)
        self.assertIs(type(under(one=[(0, 7)], other=BOOK)), Over)

    def test_book_and_itself(self):
        for book in EDGES + LARGE:
            self.assert_told(book, book, Under)
            self.assert_told(book, list(reversed(book)), Under)

    def test_dearer_only_at_none(self):
        self.assert_told([(1, 1)], [(0, 2)], Over)
        self.assert_told([(1, 0)], [(0, HUGE)], Over)

    def test_dearer_only_far_out(self):
        self.assert_told([(0, 1)], [(HUGE, 0)], Over)
        self.assert_told([(0, 2), (5, 1)], [(HUGE, 0), (9, 9)], Over)
        self.assert_told([(0, 2), (5, 1)], [(9, 9), (HUGE, 0)], Over)

    def test_touched_in_one_amount_and_missed_by_one(self):
        self.assert_told([(1, 3), (3, 1)], [(2, 2)], Under)
        self.assert_told([(10, 30), (30, 10)], [(20, 19)], Over)
        self.assert_told([(10, 30), (30, 10)], [(19, 20)], Over)
        self.assert_told([(10, 30), (30, 10)], [(20, 21)], Under)

    def test_the_last_of_the_second_decides(self):
        self.assert_told([(1, 3), (3, 1)], [(2, 2), (9, 9), (3, 3), (0, 9)], Over)
        self.assert_told([(1, 3), (3, 1)], [(2, 2), (9, 9), (3, 3), (1, 9)], Under)

    def test_every_pair_to_ask(self):
        for one, other in pairs_to_ask():
            self.assert_told(one, other, Over if self.is_over_somewhere(one, other) else Under)

    def test_long_books(self):
        book = curved(300)
        between = [((k * k + (k + 2) ** 2) // 2, 2 * (300 - k - 1)) for k in range(298)]
        self.assert_told(book, between, Under)
        self.assert_told(between, book, Over)

    def test_refuses_what_is_no_book(self):
        for bad in NO_BOOKS:
            self.assert_refused(BadBook, under, bad, BOOK)
            self.assert_refused(BadBook, under, BOOK, bad)
            self.assert_refused(BadBook, under, bad, bad)
        for bad in NO_TARIFFS:
            # That the first tariff of the second book decides doesn't keep the rest from being looked at.
            self.assert_refused(BadBook, under, [(9, 9)], [(0, 0), bad])


class MostEndlessOrDear(Told):
    def assert_told(self, book, money, expected=None):
        told = most(book, money)
        fields = vars(told)
        if type(told) is Most:
            self.assertEqual(sorted(fields), ["amount", "place"])
            self.assertTrue(words.most_holds(book, money, **fields))
        elif type(told) is Endless:
            self.assertEqual(list(fields), ["place"])
            self.assertTrue(words.endless_holds(book, money, **fields))
        else:
            self.assertIs(type(told), Dear)
            self.assertEqual(fields, {})
            self.assertTrue(words.dear_holds(book, money))
        self.assertIs(told.shows(book, money), True)
        if expected is not None:
            self.assertIs(type(told), expected)
        return told

    def expected(self, book, money):
        if all(tariff[0] > money for tariff in book):
            return Dear
        return Endless if any(tariff[1] == 0 and tariff[0] <= money for tariff in book) else Most

    def test_parameters_are_named_as_told(self):
        self.assertEqual(list(inspect.signature(most).parameters), ["book", "money"])
        self.assertIs(type(most(book=BOOK, money=24)), Most)

    def test_each_of_the_three(self):
        told = self.assert_told(BOOK, 24, Most)
        self.assertEqual((told.place, told.amount), (0, (14, 3)))
        told = self.assert_told(BOOK, 0, Most)
        self.assertEqual((told.place, told.amount), (1, (0, 1)))
        self.assertEqual(self.assert_told(BOOK, 25, Endless).place, 2)
        self.assert_told([(10, 3), (11, 0)], 9, Dear)

    def test_money_that_is_just_enough_at_once(self):
        self.assertEqual(self.assert_told([(10, 3)], 10, Most).amount, (0, 1))
        self.assert_told([(10, 3)], 9, Dear)
        self.assert_told([(10, 0)], 10, Endless)
        self.assert_told([(10, 0)], 9, Dear)
        self.assert_told([(0, 0)], 0, Endless)
        self.assert_told([(0, 1)], 0, Most)

    def test_several_that_reach_as_far(self):
        self.assertEqual(self.assert_told([(1, 3), (2, 2), (3, 1)], 4, Most).amount, (1, 1))
        self.assertEqual(self.assert_told([(2, 2), (2, 2)], 5, Most).amount, (3, 2))

    def test_numbers_of_any_size(self):
        self.assertEqual(self.assert_told([(0, 1), (1, HUGE)], HUGE, Most).amount, (HUGE, 1))
        self.assertEqual(self.assert_told([(HUGE - 1, HUGE)], HUGE, Most).amount, (1, HUGE))
        self.assert_told([(HUGE + 1, 0)], HUGE, Dear)
        self.assert_told([(HUGE, 0), (0, 1)], HUGE, Endless)

    def test_every_book_to_ask(self):
        for book in books_to_ask():
            numbers = {number + by for tariff in book for number in tariff for by in (-1, 0, 1)}
            for money in sorted(number for number in numbers | {0, 2, 5, 100} if number >= 0):
                self.assert_told(book, money, self.expected(book, money))

    def test_refuses_what_is_no_book(self):
        for bad in NO_BOOKS:
            self.assert_refused(BadBook, most, bad, 5)

    def test_refuses_what_is_no_money(self):
        for book in GOOD_BOOKS:
            for bad in NO_COUNTS + [(1, 1), Fraction(5, 2)]:
                self.assert_refused(BadMoney, most, book, bad)

    def test_bad_book_is_told_before_bad_money(self):
        for book in NO_BOOKS:
            self.assert_refused(BadBook, most, book, -1)
            self.assert_refused(BadBook, most, book, None)
        for money in NO_COUNTS:
            self.assert_refused(BadBook, most, [], money)


def calls(book):
    """Each function with this book in each of its places."""
    return [
        lambda: alone(book, 0),
        lambda: alone(book, len(book) - 1),
        lambda: alone(book, len(book)),
        lambda: ranges(book),
        lambda: under(book, [(1, 1), (9, 9)]),
        lambda: under([(1, 1), (9, 9)], book),
        lambda: under(book, book),
        lambda: most(book, 3),
        lambda: most(book, -1),
    ]


class NothingChangedOrKept(Told):
    def ask(self, call):
        try:
            return call()
        except ValueError:
            return None

    def test_books_stay_as_they_were(self):
        for book in EDGES + [[], [(1, 2), [3, 4]], [(5, 1), (2, -2)], [(2, 4), True]]:
            for call in calls(book):
                members = [id(member) for member in book]
                before = copy.deepcopy(book)
                self.ask(call)
                self.assertEqual(book, before)
                self.assertEqual([id(member) for member in book], members)

    def test_books_are_not_kept(self):
        for number in range(len(calls([]))):
            book = KeptList([(4, 1), (1, 4), (3, 3)])
            watched = weakref.ref(book)
            told = self.ask(calls(book)[number])
            del book
            gc.collect()
            self.assertIsNone(watched(), told)

    def test_lists_told_are_new_each_time(self):
        self.assertIsNot(ranges(BOOK).begins, ranges(BOOK).begins)
        told = ranges(BOOK)
        told.begins.clear()
        told.places.append(7)
        self.assertEqual(ranges(BOOK).begins, [(0, 1), (5, 2), (5, 1)])
        self.assertEqual(ranges(BOOK).places, [1, 0, 2])
        told = under(BOOK, BOOK)
        told.rows.clear()
        self.assertEqual(len(under(BOOK, BOOK).rows), 3)

    def test_fractions_told_are_new_each_time(self):
        held = [alone([(4, 1)], 0).amount, alone(BOOK, 0).amount, alone(BOOK, 1).amount, alone(BOOK, 2).amount,
                under([(1, 1)], [(0, 9)]).amount, under([(0, 1)], [(1, 0)]).amount,
                most([(0, 1)], 0).amount, most(BOOK, 7).amount]
        held += ranges(BOOK).begins + ranges(BOOK).begins + ranges([(4, 1)]).begins + under(BOOK, BOOK).rows
        self.assertEqual(len({id(part) for part in held}), len(held))

    def test_tariffs_are_not_told_as_fields(self):
        book = [tuple([0, 1]), tuple([1, 1])]
        self.assertIsNot(alone(book[:1], 0).amount, book[0])
        self.assertIsNot(ranges(book).begins[0], book[0])
        self.assertIsNot(most(book, 0).amount, book[0])
        self.assertIsNot(under(book[1:], book).amount, book[0])

    def test_changed_book_is_asked_anew(self):
        book = [(4, 1), (1, 4)]
        self.assertEqual(ranges(book).places, [1, 0])
        self.assertIs(type(alone(book, 0)), Alone)
        self.assertIs(type(most(book, 4)), Most)
        self.assertIs(type(under(book, [(3, 3)])), Under)
        book[0] = (8, 8)
        book[1] = (8, 8)
        self.assertEqual(ranges(book).places, [0])
        self.assertIs(type(alone(book, 0)), Needless)
        self.assertIs(type(most(book, 4)), Dear)
        self.assertIs(type(under(book, [(3, 3)])), Over)


if __name__ == "__main__":
    unittest.main()
