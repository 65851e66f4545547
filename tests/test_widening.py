"""Free boxes widened: DOC.md [2] and [5]."""

import itertools
import unittest

from emptybox.rooms import is_box, lies_in
from emptybox.widening import bounds_of, is_wide, reaches, widened
from tests.helper import (
    BLOCKED_BOXES, BLOCKED_ROOM, GREAT, ask_keeping, bounds_by_steps, boxes_not_free, free_boxes, mixed_rooms,
    reach_by_steps, refuses_not_free, room_of_thirty, scaled, some_rooms, step_out)

ORDERS = [list(order) for order in itertools.permutations(range(4))]


def widened_by_steps(room, box, order):
    for side in order:
        box = step_out(box, side, reach_by_steps(room, box, side))
    return box


class Reaches(unittest.TestCase):
    def test_as_step_by_step(self):
        for room in some_rooms():
            for box in free_boxes(room):
                steps = tuple(reach_by_steps(room, box, side) for side in range(4))
                told = ask_keeping(self, reaches, room, box)
                self.assertIs(type(told), tuple)
                self.assertEqual(told, steps, (room, box))
                self.assertIs(ask_keeping(self, is_wide, room, box), steps == (0, 0, 0, 0), (room, box))

    def test_no_walls(self):
        self.assertEqual(reaches((1, 1, ()), (0, 0, 1, 1)), (0, 0, 0, 0))
        self.assertIs(is_wide((1, 1, ()), (0, 0, 1, 1)), True)
        self.assertEqual(reaches((GREAT, GREAT, ()), (3, 5, 10, 20)), (3, 5, GREAT - 10, GREAT - 20))
        self.assertIs(is_wide((GREAT, GREAT, ()), (0, 0, GREAT, GREAT)), True)
        self.assertIs(is_wide((GREAT, GREAT, ()), (0, 0, GREAT, GREAT - 1)), False)
        self.assertIs(is_wide((GREAT, GREAT, ()), (1, 0, GREAT, GREAT)), False)

    def test_the_nearest_wall_counts(self):
        room = (20, 20, ((1, 9, 2, 11), (3, 10, 3, 10), (10, 4, 10, 4), (10, 15, 12, 16), (17, 0, 17, 20)))
        self.assertEqual(reaches(room, (9, 9, 11, 11)), (6, 5, 6, 4))

    def test_walls_beside_the_way_do_not_count(self):
        room = (10, 10, ((0, 0, 4, 4), (0, 6, 4, 10), (6, 0, 10, 4), (6, 6, 10, 10)))
        self.assertEqual(reaches(room, (4, 4, 6, 6)), (4, 4, 4, 4))

    def test_points_at_the_corners_do_not_count(self):
        room = (6, 6, ((2, 2, 2, 2), (2, 4, 2, 4), (4, 2, 4, 2), (4, 4, 4, 4)))
        self.assertEqual(reaches(room, (2, 2, 4, 4)), (2, 2, 2, 2))

    def test_thirty_walls_in_a_great_room(self):
        times = GREAT // 10
        small, great = room_of_thirty(), room_of_thirty(times)
        boxes = free_boxes(small)
        self.assertTrue(boxes)
        for box in boxes:
            steps = [reach_by_steps(small, box, side) for side in range(4)]
            self.assertEqual(reaches(great, scaled(box, times)), scaled(steps, times))
            self.assertIs(is_wide(great, scaled(box, times)), not any(steps))


class BoundsOf(unittest.TestCase):
    def test_as_step_by_step(self):
        for room in some_rooms():
            for box in free_boxes(room):
                told = ask_keeping(self, bounds_of, room, box)
                self.assertEqual(told, bounds_by_steps(room, box), (room, box))
                self.assertEqual([type(part) for part in [told] + told], [list] * 5)

    def test_wide_is_bounded_on_each_side(self):
        for room in some_rooms():
            for box in free_boxes(room):
                self.assertIs(is_wide(room, box), all(bounds_of(room, box)), (room, box))

    def test_nothing_bounds_a_side_that_can_be_moved(self):
        self.assertEqual(bounds_of((5, 5, ()), (1, 1, 2, 2)), [[], [], [], []])

    def test_the_room_alone(self):
        self.assertEqual(bounds_of((1, 1, ()), (0, 0, 1, 1)), [[-1], [-1], [-1], [-1]])
        self.assertEqual(bounds_of((GREAT, GREAT, ()), (0, 0, GREAT, GREAT)), [[-1], [-1], [-1], [-1]])

    def test_the_room_and_walls_at_once(self):
        walls = ((0, 0, 0, 4), (0, 0, 4, 0), (0, 2, 0, 2), (0, 4, 4, 4), (4, 0, 4, 0), (4, 1, 4, 3))
        told = bounds_of((4, 4, walls), (0, 0, 4, 4))
        self.assertEqual(told, [[-1, 0, 2], [-1, 1], [-1, 5], [-1, 3]])

    def test_points_straight_walls_and_blocks(self):
        walls = ((0, 3, 2, 4), (2, 3, 2, 3), (2, 3, 2, 9), (3, 0, 4, 2), (6, 0, 6, 9))
        told = bounds_of((9, 9, walls), (2, 2, 6, 5))
        self.assertEqual(told, [[0, 1, 2], [3], [4], []])

    def test_thirty_walls_in_a_great_room(self):
        times = GREAT // 10
        small, great = room_of_thirty(), room_of_thirty(times)
        for box in free_boxes(small):
            self.assertEqual(bounds_of(great, scaled(box, times)), bounds_by_steps(small, box))

    def test_the_told_lists_are_the_asker_s_own(self):
        room = (4, 4, ((0, 0, 0, 4), (2, 2, 2, 2)))
        for box in ((0, 0, 4, 2), (1, 0, 2, 1)):
            first = bounds_of(room, box)
            kept = [list(part) for part in first]
            again = bounds_of(room, box)
            parts = [first, again] + first + again
            self.assertEqual(len({id(part) for part in parts}), len(parts))
            for part in first:
                part.append(9)
            first.pop()
            self.assertEqual(again, kept)
            self.assertEqual(bounds_of(room, box), kept)


class Widened(unittest.TestCase):
    def test_as_step_by_step(self):
        for room in some_rooms():
            for at, box in enumerate(free_boxes(room)):
                for order in ORDERS[at % 5::5]:
                    told = ask_keeping(self, widened, room, box, order)
                    self.assertIs(type(told), tuple)
                    self.assertEqual(told, widened_by_steps(room, box, order), (room, box, order))
                    self.assertIs(is_box(room, told) and lies_in(box, told) and is_wide(room, told), True)

    def test_the_order_counts(self):
        room = (4, 4, ((0, 0, 1, 1),))
        self.assertEqual(widened(room, (1, 1, 2, 2), [0, 1, 2, 3]), (0, 1, 4, 4))
        self.assertEqual(widened(room, (1, 1, 2, 2), [1, 0, 2, 3]), (1, 0, 4, 4))
        room = (4, 4, ((3, 3, 4, 4),))
        self.assertEqual(widened(room, (1, 1, 2, 2), [2, 3, 0, 1]), (0, 0, 4, 3))
        self.assertEqual(widened(room, (1, 1, 2, 2), [3, 2, 0, 1]), (0, 0, 3, 4))

    def test_the_order_may_be_a_tuple(self):
        for order in ORDERS:
            room = (7, 7, ((1, 4, 1, 4), (3, 1, 3, 1), (4, 6, 4, 6), (6, 3, 6, 3)))
            self.assertEqual(widened(room, (3, 3, 4, 4), tuple(order)), widened(room, (3, 3, 4, 4), order))

    def test_a_wide_box_stays(self):
        for order in ORDERS:
            self.assertEqual(widened((1, 1, ()), (0, 0, 1, 1), order), (0, 0, 1, 1))
            self.assertEqual(widened((GREAT, GREAT, ()), (0, 0, GREAT, GREAT), order), (0, 0, GREAT, GREAT))

    def test_great_rooms(self):
        for order in ORDERS:
            self.assertEqual(widened((GREAT, GREAT, ()), (7, 8, 9, 10), order), (0, 0, GREAT, GREAT))
        times = GREAT // 10
        small, great = room_of_thirty(), room_of_thirty(times)
        for box in free_boxes(small):
            for order in ORDERS:
                told = widened(great, scaled(box, times), order)
                self.assertEqual(told, scaled(widened_by_steps(small, box, order), times))


class Refused(unittest.TestCase):
    def refused(self, room, box, wall):
        asks = [(ask, (room, box)) for ask in (reaches, is_wide, bounds_of)]
        asks += [(widened, (room, box, order)) for order in (ORDERS[0], ORDERS[-1])]
        for ask, told in asks:
            refuses_not_free(self, wall, ask, *told)

    def test_the_first_wall_that_lies_in(self):
        for box, wall in BLOCKED_BOXES:
            self.refused(BLOCKED_ROOM, box, wall)

    def test_all_boxes_that_are_not_free(self):
        for room in mixed_rooms(30):
            for box, wall in boxes_not_free(room):
                self.refused(room, box, wall)

    def test_least_and_greatest_rooms(self):
        self.refused((1, 1, ((0, 0, 1, 1),)), (0, 0, 1, 1), 0)
        point = (GREAT - 1, GREAT - 1, GREAT - 1, GREAT - 1)
        self.refused((GREAT, GREAT, (point,)), (0, 0, GREAT, GREAT), 0)

    def test_the_last_of_thirty_walls(self):
        walls = tuple((k, 0, k, 1) for k in range(29)) + ((29, 3, 30, 4),)
        self.refused((30, 30, walls), (0, 1, 30, 30), 29)

    def test_a_refusal_changes_nothing(self):
        room = (3, 3, ((1, 1, 1, 1),))
        before = (reaches(room, (1, 0, 2, 1)), bounds_of(room, (1, 0, 3, 3)))
        self.refused(room, (0, 0, 2, 2), 0)
        self.assertEqual((reaches(room, (1, 0, 2, 1)), bounds_of(room, (1, 0, 3, 3))), before)


if __name__ == "__main__":
    unittest.main()
