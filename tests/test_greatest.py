"""The greatest and its tree: DOC.md [1], [2], [6] and [13]."""

import itertools
import random
import unittest

from emptybox.boxes import largest
from emptybox.greatest import greatest_paper
from emptybox.greatestcheck import shows_greatest
from emptybox.rooms import is_free
from tests.helper import (
    FILLED, GREAT, GREAT_FILLED, area_by_cells, ask_keeping, falling_row, first_of_the_greatest, free_boxes,
    great_rooms, lists_in, mixed_rooms, rising_row, room_of_forty, small_rooms, tree_holds, wide_by_splitting,
    wide_by_steps)


def rooms_of_twelve(many=20):
    """Rooms with 12 walls of all kinds, small ones and as great as may be."""
    source = random.Random(12)
    for at in range(many):
        size = (6, 12, 40, GREAT)[at % 4]
        walls = set()
        while len(walls) < 12:
            (a, c), (b, d) = (sorted((source.randint(0, size), source.randint(0, size))) for _ in range(2))
            kinds = ((a, b, a, b), (a, b, c, b), (a, b, a, d), (a, b, (3 * a + c) // 4, (3 * b + d) // 4), (a, b, c, d))
            walls.add(kinds[source.randint(0, 3 + at % 2)])
        yield (size, size, tuple(sorted(walls)))


class GreatestPaper(unittest.TestCase):
    def agrees(self, room, area, box):
        told = ask_keeping(self, greatest_paper, room)
        self.assertEqual([type(told), len(told), type(told[0])], [tuple, 3, int])
        self.assertEqual(told[:2], (area, box), room)
        self.assertIs(shows_greatest(room, told), True)
        self.assertTrue(tree_holds(room, (0, 0, room[0], room[1]), area, told[2]), told)

    def test_as_all_free_boxes_one_by_one(self):
        for room in itertools.chain(small_rooms(), mixed_rooms(80, 12)):
            boxes = free_boxes(room)
            area = max([area_by_cells(box) for box in boxes], default=0)
            # A free box of the greatest area is wide.
            self.agrees(room, area, min([box for box in boxes if area_by_cells(box) == area], default=None))

    def test_the_first_wide_one(self):
        for room in mixed_rooms(40, 12):
            self.agrees(room, *first_of_the_greatest(wide_by_steps(room)))
        self.agrees((4, 4, ((2, 2, 2, 2),)), 8, (0, 0, 2, 4))
        self.agrees((4, 4, ((0, 2, 4, 2), (2, 0, 2, 4))), 4, (0, 0, 2, 2))
        self.agrees((6, 4, ((2, 1, 2, 1),)), 18, (0, 1, 6, 4))

    def test_twelve_walls(self):
        for room in rooms_of_twelve():
            self.assertEqual(len(room[2]), 12)
            self.agrees(room, *first_of_the_greatest(wide_by_splitting(room)))

    def test_as_largest_tells(self):
        for room in itertools.chain(mixed_rooms(), rooms_of_twelve()):
            area, boxes = largest(room)
            self.assertEqual(greatest_paper(room)[:2], (area, (boxes + [None])[0]))

    def test_rows_of_twelve_points(self):
        for step in (1, 3, GREAT // 13):
            for room in (rising_row(12, step), falling_row(12, step)):
                self.agrees(room, *first_of_the_greatest(wide_by_splitting(room)))

    def test_blocks_one_in_the_other(self):
        walls = tuple((k, k, 30 - k, 30 - k) for k in range(1, 13))
        self.agrees((30, 30, walls), 30, (0, 0, 1, 30))
        walls = tuple((k, 2 * k, 50 - k, 30 - k) for k in range(1, 13))
        self.agrees((50, 30, walls), 100, (0, 0, 50, 2))

    def test_empty_rooms(self):
        self.agrees((1, 1, ()), 1, (0, 0, 1, 1))
        self.agrees((7, 3, ()), 21, (0, 0, 7, 3))
        self.agrees((GREAT, GREAT, ()), 10 ** 12, (0, 0, GREAT, GREAT))

    def test_filled_rooms(self):
        for room in (*FILLED, GREAT_FILLED):
            self.agrees(room, 0, None)
        blocks = tuple((x, y, x + 1, y + 1) for x in range(4) for y in range(3))
        self.agrees((4, 3, blocks), 0, None)
        strips = tuple((k, 0, k + 1, 5) for k in range(12))
        self.agrees((12, 5, strips), 0, None)
        self.agrees((GREAT, GREAT, ((0, 0, 1, GREAT), (1, 0, GREAT, GREAT))), 0, None)

    def test_walls_at_the_room_s_end(self):
        ends = ((0, 0, 0, 4), (0, 0, 4, 0), (0, 2, 0, 2), (0, 4, 4, 4), (4, 1, 4, 1), (4, 2, 4, 4))
        self.agrees((4, 4, ends), 16, (0, 0, 4, 4))

    def test_somewhat_beyond_twelve_walls(self):
        for room in (room_of_forty(), rising_row(16), *great_rooms(2)):
            self.agrees(room, *first_of_the_greatest(wide_by_splitting(room)))

    def test_all_of_it_is_tuples(self):
        for room in itertools.chain(mixed_rooms(20), FILLED, rooms_of_twelve(4)):
            self.assertEqual(lists_in(greatest_paper(room)), [])

    def test_the_same_again(self):
        for room in rooms_of_twelve(4):
            self.assertEqual(greatest_paper(room), greatest_paper(room))

    def test_the_box_is_free_and_none_is_greater(self):
        for room in mixed_rooms(40, 12):
            area, box, tree = greatest_paper(room)
            self.assertTrue(box is None or is_free(room, box))
            self.assertFalse([one for one in free_boxes(room) if area_by_cells(one) > area])


if __name__ == "__main__":
    unittest.main()
