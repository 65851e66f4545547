"""The refusals' classes: DOC.md [2] and the interface."""

import unittest

from emptybox.errors import BadRow, BoxError, NotFree, NoWall, Taken
from emptybox.widening import reaches

REFUSALS = (NotFree, BadRow, NoWall, Taken)


class Refusals(unittest.TestCase):
    def test_box_error_stands_straight_under_value_error(self):
        self.assertEqual(BoxError.__bases__, (ValueError,))

    def test_each_stands_straight_under_box_error_alone(self):
        for refusal in REFUSALS:
            self.assertEqual(refusal.__bases__, (BoxError,))

    def test_none_stands_under_another_one(self):
        for one in REFUSALS:
            for other in REFUSALS:
                self.assertEqual(issubclass(one, other), one is other)

    def test_fields(self):
        self.assertEqual(NotFree(3).wall, 3)
        self.assertEqual(BadRow(5).row, 5)

    def test_a_refusal_is_caught_by_each_name_above_it(self):
        room = (2, 2, ((1, 1, 1, 1),))
        for name in (NotFree, BoxError, ValueError):
            with self.assertRaises(name) as caught:
                reaches(room, (0, 0, 2, 2))
            self.assertIs(type(caught.exception), NotFree)
            self.assertEqual(caught.exception.wall, 0)


if __name__ == "__main__":
    unittest.main()
