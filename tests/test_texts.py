import gc
import inspect
import unittest
import weakref

from books_to_ask import EDGES, chance_books, small_books
from leasttariff.errors import BadBook, BadText
from leasttariff.texts import read, written
from told import KeptList, Told
from wrong_values import HUGE, NO_BOOKS, NO_TEXTS

SIGNS = [chr(code) for code in range(32, 127)] + ["\t", "\n"]
LONGEST = 10 ** 60 - 1
TEXTS = {
    "0+0": [(0, 0)],
    "10+3 0+7 25+0": [(10, 3), (0, 7), (25, 0)],
    "1+2 1+2": [(1, 2), (1, 2)],
    "9" * 60 + "+0": [(LONGEST, 0)],
    "0+1" + "0" * 59: [(0, 10 ** 59)],
    "1234567890+1009": [(1234567890, 1009)],
}
WRONG_TEXTS = [
    "", " ", "  ", "+", "++", "1", "12", "1+", "+1", "1 2", "1+2+3", "1++2", "1-2", "1,2", "(1, 2)", "[(1, 2)]",
    " 1+2", "1+2 ", "1+2  3+4", "1+2\t3+4", "1+2\n3+4", "1+2\n", "\n1+2", "1+2\t", "\t1+2", "1+2,3+4", "1 +2", "1+ 2",
    "1 + 2", "1+2 3", "1+2 3+", "1+2 +3", "1+2 3+4 ", "1+2 3 4+5", "01+2", "1+02", "00+0", "0+00", "1+2 03+4", "-1+2",
    "1+-2", "1+-0", "-0+1", "+1+2", "1++2", "1_0+2", "1+2_0", "1.0+2", "1e3+2", "0x1+2", "1+0b1", "a+b", "one+two",
    "None", "\n", "\t", "1+2\n\n3+4", "1\n+2", "1+\n2", "1+2\r", "1+2\r\n3+4", "1+2\x0b", "1+2\x00", "\x001+2",
    "1+2\xa03+4", "1+2\u20033+4", "\ufeff1+2", "\u0661+2", "1+\u0662", "\xb2+1", "1+\xb9", "\uff11+2", "1\uff0b2",
    "1+\u096a", "1" * 61 + "+1", "1+" + "9" * 61, "1+1" + "0" * 60, "0" * 61 + "+1", "1+2 3+" + "4" * 61, "0" * 60 + "+1",
    "1" * 5000 + "+1", "1+" + "7" * 5000, "0+0" + "1" * 5, "1+2 " * 3, "~", "1+2 ~", "1+2;3+4", "\u00b1+1", "1+\ud800",
]


class Written(Told):
    def test_parameters_are_named_as_told(self):
        self.assertEqual(list(inspect.signature(written).parameters), ["book"])
        self.assertEqual(written(book=[(1, 2)]), "1+2")

    def test_to_the_sign(self):
        for text, book in TEXTS.items():
            self.assertIs(type(written(book)), str)
            self.assertEqual(written(book), text)

    def test_numbers_of_sixty_figures_and_of_sixty_one(self):
        self.assertEqual(written([(LONGEST, LONGEST)]), "9" * 60 + "+" + "9" * 60)
        for number in (10 ** 60, 10 ** 60 + 1, 10 ** 61, HUGE):
            for book in ([(number, 0)], [(0, number)], [(1, 2), (3, 4), (number, 5)], [(number, 0), (1, 2)],
                         [(1, 2), (3, number), (4, 5)]):
                self.assert_refused(BadBook, written, book)

    def test_refuses_what_is_no_book(self):
        for bad in NO_BOOKS:
            self.assert_refused(BadBook, written, bad)

    def test_book_stays_as_it_was_and_is_not_kept(self):
        book = KeptList([(3, 1), (10 ** 60, 2), (0, 0)])
        watched = weakref.ref(book)
        self.assert_refused(BadBook, written, book)
        self.assertEqual(book, [(3, 1), (10 ** 60, 2), (0, 0)])
        book[1] = (4, 2)
        self.assertEqual(written(book), "3+1 4+2 0+0")
        self.assertEqual(book, [(3, 1), (4, 2), (0, 0)])
        del book
        gc.collect()
        self.assertIsNone(watched())


class Read(Told):
    def assert_book(self, told, expected):
        self.assertIs(type(told), list)
        self.assertEqual([type(tariff) for tariff in told], [tuple] * len(told))
        self.assertEqual([type(number) for tariff in told for number in tariff], [int] * (2 * len(told)))
        self.assertEqual(told, expected)

    def test_parameters_are_named_as_told(self):
        self.assertEqual(list(inspect.signature(read).parameters), ["text"])
        self.assert_book(read(text="1+2"), [(1, 2)])

    def test_what_is_written(self):
        for text, book in TEXTS.items():
            self.assert_book(read(text), book)

    def test_read_of_what_is_written_is_the_book(self):
        books = small_books() + EDGES[:-1] + chance_books(100, 9, 10 ** 60, 7) + [[(LONGEST, LONGEST)] * 500]
        for book in books:
            self.assert_book(read(written(book)), book)

    def test_numbers_of_sixty_figures_and_of_sixty_one(self):
        for figure in "123456789":
            self.assert_book(read(figure * 60 + "+" + figure * 60), [(int(figure * 60), int(figure * 60))])
            self.assert_refused(BadText, read, figure * 61 + "+1")
            self.assert_refused(BadText, read, "1+" + figure * 61)

    def test_each_other_text_is_refused(self):
        for text in WRONG_TEXTS:
            self.assert_refused(BadText, read, text)

    def test_every_text_one_sign_off(self):
        for text in ("0+0", "10+3 0+7", "5+20"):
            for at in range(len(text) + 1):
                self.hold(text[:at] + text[at + 1:])
                for sign in SIGNS:
                    self.hold(text[:at] + sign + text[at:])
                    self.hold(text[:at] + sign + text[at + 1:])

    def test_every_text_of_few_signs(self):
        texts = [""]
        for length in range(6):
            texts = [text + sign for text in texts for sign in "01+ \n"]
            for text in texts:
                self.hold(text)

    def hold(self, text):
        """A text is read just when it is what some book is written as."""
        try:
            told = read(text)
        except BadText:
            self.assertFalse(is_written(text), text)
        else:
            self.assertEqual(" ".join(f"{one}+{other}" for one, other in told), text)

    def test_what_is_no_text(self):
        for bad in NO_TEXTS:
            self.assert_refused(BadText, read, bad)

    def test_what_is_told_is_new(self):
        self.assertIsNot(read("1+2"), read("1+2"))
        told = read("1+2 3+4")
        told.clear()
        self.assertEqual(read("1+2 3+4"), [(1, 2), (3, 4)])


def is_written(text):
    numbers = [number for word in text.split(" ") for number in word.split("+")]
    paired = all(word.count("+") == 1 for word in text.split(" "))
    return paired and all(
        number != "" and set(number) <= set("0123456789") and str(int(number)) == number for number in numbers
    )


if __name__ == "__main__":
    unittest.main()
