import unittest

from guisery import errors

STRAIGHT_UNDER = (
    "BadBreadth", "BadMachine", "BadWord", "BadCount", "BadName", "Taken", "NoGuise", "NoPeg",
    "TooMany", "TooLong", "NothingWorn", "NothingLeft", "BadLine", "BadPage",
)


def refusal(name):
    return getattr(errors, name)


class Refusals(unittest.TestCase):
    def test_any_refusal_is_a_value_error(self):
        self.assertEqual(errors.GuiseError.__bases__, (ValueError,))

    def test_there_are_fourteen_straight_under_it(self):
        under = [name for name, held in vars(errors).items() if isinstance(held, type) and name != "GuiseError"]
        self.assertEqual(sorted(under), sorted(STRAIGHT_UNDER))
        for name in STRAIGHT_UNDER:
            self.assertEqual(refusal(name).__bases__, (errors.GuiseError,))
            self.assertEqual(refusal(name).__name__, name)

    def test_each_is_a_guise_error_and_a_value_error(self):
        for name in STRAIGHT_UNDER:
            for wider in (refusal(name), errors.GuiseError, ValueError):
                with self.assertRaises(wider):
                    raise refusal(name)(1)

    def test_none_stands_under_another_one(self):
        for one in STRAIGHT_UNDER:
            for other in STRAIGHT_UNDER:
                self.assertEqual(issubclass(refusal(one), refusal(other)), one == other)

    def test_a_bad_page_tells_its_row(self):
        self.assertEqual(errors.BadPage(7).at, 7)
        self.assertEqual(errors.BadPage(1).at, 1)
