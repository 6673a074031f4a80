"""[3] and the interface: the classes of refusals and their fields."""

import unittest

from stowhold import errors
from stowhold.errors import BadLift, BadRow, NoFilling, NoNote, NoPlan, StowError

PLAIN = ["NoShip", "OutOfShip", "NoLoad", "NoBox", "NoPlace", "Twice", "Passed", "Unsound", "NotYet"]
WITH_FIELDS = ["BadLift", "NoPlan", "BadRow", "NoFilling", "NoNote"]


def refusals():
    return [getattr(errors, name) for name in PLAIN + WITH_FIELDS]


class Classes(unittest.TestCase):
    def test_any_refusal_is_a_value_error(self):
        self.assertEqual(StowError.__bases__, (ValueError,))

    def test_each_stands_right_under_stow_error(self):
        for refusal in refusals():
            with self.subTest(refusal.__name__):
                self.assertEqual(refusal.__bases__, (StowError,))

    def test_none_stands_beneath_another(self):
        for one in refusals():
            for other in refusals():
                with self.subTest(one=one.__name__, other=other.__name__):
                    self.assertEqual(issubclass(one, other), one is other)

    def test_each_is_called_by_its_name(self):
        self.assertEqual([refusal.__name__ for refusal in refusals()], PLAIN + WITH_FIELDS)

    def test_plain_ones_are_raised_and_caught(self):
        for name in PLAIN:
            with self.subTest(name):
                with self.assertRaises(StowError):
                    raise getattr(errors, name)("some words")


class Fields(unittest.TestCase):
    def test_why(self):
        self.assertEqual(BadLift("hatch").why, "hatch")
        self.assertEqual(NoPlan("none").why, "none")

    def test_at_and_why(self):
        refusal = BadRow(7, "under")
        self.assertEqual((refusal.at, refusal.why), (7, "under"))

    def test_paper(self):
        paper = ("part", [("amber", "cold")], ("lost",))
        self.assertEqual(NoFilling(paper).paper, paper)

    def test_line(self):
        self.assertEqual(NoNote(0).line, 0)

    def test_each_object_has_its_own(self):
        first, second = BadRow(1, "cell"), BadRow(2, "name")
        self.assertEqual((first.at, first.why, second.at, second.why), (1, "cell", 2, "name"))

    def test_a_caught_one_has_them(self):
        with self.assertRaises(BadLift) as caught:
            raise BadLift("empty")
        self.assertEqual(caught.exception.why, "empty")


if __name__ == "__main__":
    unittest.main()
