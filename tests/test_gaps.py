"""Boxes with a gap to all walls: DOC.md [1], [2] and [10]."""

import itertools
import unittest

from emptybox.boxes import wide_boxes
from emptybox.gaps import gap_of, with_gap
from emptybox.rooms import is_free, is_room
from tests.helper import (
    BLOCKED_BOXES, BLOCKED_ROOM, GREAT, all_boxes, ask_keeping, boxes_not_free, free_boxes, great_rooms, mixed_rooms,
    numbers_in, refuses_not_free, room_of_thirty, scaled, small_rooms)


def places(wall):
    """All places of a wall, one by one."""
    return {(x, y) for x in range(wall[0], wall[2] + 1) for y in range(wall[1], wall[3] + 1)}


def grown(room, wall, gap):
    """The wall made greater by gap, by its places: those of the room at most gap away across and up."""
    near = {(x + u, y + v) for x, y in places(wall)
            for u in range(-gap, gap + 1) for v in range(-gap, gap + 1)}
    inside = [(x, y) for x, y in near if 0 <= x <= room[0] and 0 <= y <= room[1]]
    return min(inside) + max(inside)


def far_from(wall, box):
    """How far a wall is from a box, across or up, by their places."""
    across = min(abs(x - u) for x in range(wall[0], wall[2] + 1) for u in range(box[0], box[2] + 1))
    up = min(abs(y - v) for y in range(wall[1], wall[3] + 1) for v in range(box[1], box[3] + 1))
    return max(across, up)


class WithGap(unittest.TestCase):
    def agrees(self, room, gap, right):
        told = ask_keeping(self, with_gap, room, gap)
        self.assertIs(is_room(told), True)
        self.assertEqual(told, right, (room, gap))

    def test_as_place_by_place(self):
        for room in mixed_rooms():
            for gap in range(5):
                walls = {grown(room, wall, gap) for wall in room[2]}
                self.agrees(room, gap, (room[0], room[1], tuple(sorted(walls))))

    def test_gap_nought(self):
        for room in itertools.chain(small_rooms(), mixed_rooms(), great_rooms(), [room_of_thirty()]):
            self.agrees(room, 0, room)

    def test_no_walls(self):
        for gap in (0, 1, GREAT):
            self.agrees((3, 4, ()), gap, (3, 4, ()))

    def test_each_kind_of_wall(self):
        self.agrees((20, 20, ((5, 6, 5, 6),)), 2, (20, 20, ((3, 4, 7, 8),)))
        self.agrees((20, 20, ((5, 6, 9, 6),)), 2, (20, 20, ((3, 4, 11, 8),)))
        self.agrees((20, 20, ((5, 6, 9, 8),)), 2, (20, 20, ((3, 4, 11, 10),)))

    def test_cut_at_the_room_s_end(self):
        self.agrees((9, 8, ((1, 5, 2, 5),)), 3, (9, 8, ((0, 2, 5, 8),)))
        self.agrees((9, 8, ((5, 1, 8, 2),)), 3, (9, 8, ((2, 0, 9, 5),)))
        self.agrees((9, 8, ((0, 0, 0, 0),)), 1, (9, 8, ((0, 0, 1, 1),)))
        self.agrees((9, 8, ((9, 8, 9, 8),)), 1, (9, 8, ((8, 7, 9, 8),)))
        self.agrees((GREAT, GREAT, ((0, GREAT, 1, GREAT),)), 5, (GREAT, GREAT, ((0, GREAT - 5, 6, GREAT),)))

    def test_walls_that_become_alike(self):
        self.agrees((9, 9, ((0, 4, 1, 4), (1, 4, 1, 4))), 1, (9, 9, ((0, 3, 2, 5),)))
        self.agrees((3, 3, ((0, 0, 0, 0), (1, 1, 1, 1), (3, 3, 3, 3))), 3, (3, 3, ((0, 0, 3, 3),)))

    def test_walls_whose_order_changes(self):
        self.agrees((9, 9, ((0, 3, 0, 3), (1, 0, 1, 1))), 2, (9, 9, ((0, 0, 3, 3), (0, 1, 2, 5))))

    def test_great_gaps(self):
        for gap in (GREAT, GREAT - 1, 10 ** 9):
            self.agrees((7, 5, ((3, 3, 3, 3), (4, 4, 5, 5))), gap, (7, 5, ((0, 0, 7, 5),)))
        self.agrees((GREAT, GREAT, ((0, 0, 0, 0),)), GREAT - 1, (GREAT, GREAT, ((0, 0, GREAT - 1, GREAT - 1),)))
        self.agrees((GREAT, GREAT, ((0, 0, 0, 0),)), GREAT, (GREAT, GREAT, ((0, 0, GREAT, GREAT),)))

    def test_free_there_is_each_wall_gap_away(self):
        for room in mixed_rooms(30, 5):
            for gap in range(4):
                there = with_gap(room, gap)
                for box in all_boxes(room[0], room[1])[::3]:
                    right = not numbers_in(room, box) and all(far_from(wall, box) >= gap for wall in room[2])
                    self.assertIs(is_free(there, box), right, (room, gap, box))

    def test_with_gap_one_no_wall_touches_it(self):
        for room in mixed_rooms(30):
            for box in wide_boxes(with_gap(room, 1)):
                taken = {(x, y) for x in range(box[0], box[2] + 1) for y in range(box[1], box[3] + 1)}
                self.assertFalse(any(places(wall) & taken for wall in room[2]))

    def test_thirty_walls_in_a_great_room(self):
        times = GREAT // 10
        small, great = room_of_thirty(), room_of_thirty(times)
        for gap in range(4):
            walls = sorted({scaled(grown(small, wall, gap), times) for wall in small[2]})
            self.agrees(great, gap * times, (GREAT, GREAT, tuple(walls)))

    def test_a_gap_after_a_gap(self):
        for room in mixed_rooms(30):
            self.assertEqual(with_gap(with_gap(room, 1), 2), with_gap(room, 3))


class GapOf(unittest.TestCase):
    def agrees(self, room, box, right):
        told = ask_keeping(self, gap_of, room, box)
        self.assertIs(type(told), type(right))
        self.assertEqual(told, right, (room, box))

    def test_as_with_gap(self):
        for room in itertools.chain(itertools.islice(small_rooms(), 0, None, 3), mixed_rooms()):
            for box in free_boxes(room)[::2]:
                gap = ask_keeping(self, gap_of, room, box)
                if not room[2]:
                    self.assertIsNone(gap)
                else:
                    tried = [is_free(with_gap(room, far), box) for far in range(9)]
                    self.assertEqual(tried, [far <= gap for far in range(9)], (room, box))

    def test_as_place_by_place(self):
        for room in mixed_rooms(30):
            for box in free_boxes(room)[::3]:
                self.agrees(room, box, min((far_from(wall, box) for wall in room[2]), default=None))

    def test_no_walls(self):
        self.agrees((1, 1, ()), (0, 0, 1, 1), None)
        self.agrees((GREAT, GREAT, ()), (3, 4, 5, 6), None)

    def test_to_each_side(self):
        for wall, gap in (((0, 4, 1, 5), 3), ((5, 0, 5, 2), 2), ((9, 5, 12, 5), 2), ((5, 11, 5, 11), 5)):
            self.agrees((12, 12, (wall,)), (4, 4, 7, 6), gap)

    def test_across_or_up_whichever_is_more(self):
        self.agrees((12, 12, ((0, 0, 1, 2),)), (4, 4, 7, 6), 3)
        self.agrees((12, 12, ((0, 0, 3, 0),)), (4, 4, 7, 6), 4)
        self.agrees((12, 12, ((8, 11, 8, 11),)), (4, 4, 7, 6), 5)

    def test_the_nearest_wall_counts(self):
        self.agrees((12, 12, ((0, 0, 1, 1), (9, 5, 9, 5), (12, 12, 12, 12))), (4, 4, 7, 6), 2)

    def test_a_wall_that_touches(self):
        for wall in ((4, 4, 4, 4), (0, 0, 4, 4), (4, 6, 7, 6), (7, 0, 7, 12), (0, 6, 12, 12)):
            self.agrees((12, 12, (wall,)), (4, 4, 7, 6), 0)

    def test_great_rooms(self):
        self.agrees((GREAT, GREAT, ((GREAT, GREAT, GREAT, GREAT),)), (0, 0, 1, 1), GREAT - 1)
        self.agrees((GREAT, GREAT, ((0, 0, 0, GREAT),)), (GREAT - 1, 0, GREAT, GREAT), GREAT - 1)
        times = GREAT // 10
        small, great = room_of_thirty(), room_of_thirty(times)
        for box in free_boxes(small):
            self.agrees(great, scaled(box, times), times * min(far_from(wall, box) for wall in small[2]))
        for room in great_rooms(3):
            for left, low, right, top in wide_boxes(room):
                self.agrees(room, (left, low, right, top), 0)
                middle = ((left + right) // 2, (low + top) // 2)
                box = middle + (middle[0] + 1, middle[1] + 1)
                gap = gap_of(room, box)
                self.assertIs(is_free(with_gap(room, gap), box), True)
                self.assertIs(is_free(with_gap(room, gap + 1), box), False)


class Refused(unittest.TestCase):
    def refused(self, room, box, wall):
        refuses_not_free(self, wall, gap_of, room, box)

    def test_the_first_wall_that_lies_in(self):
        for box, wall in BLOCKED_BOXES:
            self.refused(BLOCKED_ROOM, box, wall)

    def test_all_boxes_that_are_not_free(self):
        for room in mixed_rooms(30):
            for box, wall in boxes_not_free(room):
                self.refused(room, box, wall)

    def test_a_great_room(self):
        point = (GREAT - 1, GREAT - 1, GREAT - 1, GREAT - 1)
        self.refused((GREAT, GREAT, ((0, 0, 0, 0), point)), (0, 0, GREAT, GREAT), 1)


if __name__ == "__main__":
    unittest.main()
