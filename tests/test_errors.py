import unittest

from keptmeanings import errors
from keptmeanings.errors import BadBook, BadHistory, BadPlan, BadRun, BadText, MeaningError

NAMES = """BadForm BadNumber BadBook BadWording BadSetting BadFunction BadBody BadPlan BadThing BadRow BadState BadDeed
    BadHistory BadAsk BadFree TooLarge BadStand BadPrices BadPlaces BadCouple NoRow Refused NothingDone BadText
    BadForget BadScene BadRun""".split()


class TestErrors(unittest.TestCase):
    def test_meaning_error_is_a_value_error(self):
        self.assertEqual(MeaningError.__bases__, (ValueError,))

    def test_all_listed_errors_are_direct_subclasses(self):
        for name in NAMES:
            self.assertEqual(getattr(errors, name).__bases__, (MeaningError,), name)
            self.assertEqual(getattr(errors, name).__module__, "keptmeanings.errors")

    def test_there_are_no_others(self):
        self.assertEqual(sorted(one.__name__ for one in MeaningError.__subclasses__()), sorted(NAMES))

    def test_attributes(self):
        for error, name in [(BadBook, "part"), (BadPlan, "part"), (BadHistory, "index"), (BadRun, "index"),
                            (BadText, "row")]:
            self.assertIsNone(getattr(error(), name))
            self.assertEqual(getattr(error("BASE"), name), "BASE")
            self.assertEqual(getattr(error(7), name), 7)

    def test_each_can_be_raised_and_caught(self):
        for name in NAMES:
            with self.assertRaises(MeaningError):
                raise getattr(errors, name)()


if __name__ == "__main__":
    unittest.main()
