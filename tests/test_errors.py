import unittest

from leasttariff import errors

UNDER_IT = ("BadBook", "BadPlace", "BadAmount", "BadMoney", "BadText")


class ErrorClasses(unittest.TestCase):
    def test_tariff_error_is_straight_under_value_error(self):
        self.assertEqual(errors.TariffError.__bases__, (ValueError,))

    def test_each_other_is_straight_under_tariff_error(self):
        for name in UNDER_IT:
            with self.subTest(name=name):
                self.assertEqual(getattr(errors, name).__bases__, (errors.TariffError,))

    def test_classes_bear_their_names_and_are_six(self):
        classes = {getattr(errors, name) for name in UNDER_IT + ("TariffError",)}
        self.assertEqual(len(classes), 6)
        for name in UNDER_IT + ("TariffError",):
            self.assertEqual(getattr(errors, name).__name__, name)

    def test_each_can_be_raised_with_and_without_words(self):
        for name in UNDER_IT + ("TariffError",):
            with self.subTest(name=name):
                with self.assertRaises(ValueError):
                    raise getattr(errors, name)("words")
                with self.assertRaises(ValueError):
                    raise getattr(errors, name)()


if __name__ == "__main__":
    unittest.main()
