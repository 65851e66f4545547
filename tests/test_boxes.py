"""All wide boxes, and the greatest: DOC.md [1], [2] and [6]."""

import itertools
import unittest

from emptybox.boxes import largest, wide_boxes
from emptybox.rooms import area_of, is_box, room_of
from emptybox.widecheck import shows_wide
from emptybox.widening import bounds_of, is_wide
from tests.helper import (
    FILLED, GREAT, GREAT_FILLED, all_walls, ask_keeping, cells, falling_row, free_boxes, great_rooms, mixed_rooms,
    rising_row, room_of_thirty, scaled, some_rooms, tells_own_lists, wide_by_splitting, wide_by_steps)


class WideBoxes(unittest.TestCase):
    def agrees(self, room, boxes):
        told = ask_keeping(self, wide_boxes, room)
        self.assertIs(type(told), list)
        self.assertEqual(told, boxes, room)

    def test_as_all_free_boxes_one_by_one(self):
        for room in some_rooms():
            self.agrees(room, wide_by_steps(room))

    def test_each_wall_alone(self):
        for wall in all_walls(4, 3):
            self.agrees((4, 3, (wall,)), wide_by_steps((4, 3, (wall,))))

    def test_many_walls_in_small_rooms(self):
        for room in mixed_rooms(80, 16):
            self.agrees(room, wide_by_steps(room))

    def test_all_points_of_a_room(self):
        room = room_of(4, 4, [(x, y, x, y) for x in range(5) for y in range(5)])
        self.agrees(room, wide_by_steps(room))
        self.assertIn((0, 0, 1, 4), wide_boxes(room))

    def test_empty_rooms(self):
        self.agrees((1, 1, ()), [(0, 0, 1, 1)])
        self.agrees((7, 3, ()), [(0, 0, 7, 3)])
        self.agrees((GREAT, GREAT, ()), [(0, 0, GREAT, GREAT)])

    def test_filled_rooms(self):
        for room in (*FILLED, GREAT_FILLED):
            self.agrees(room, [])

    def test_walls_at_the_room_s_end_part_nothing(self):
        ends = ((0, 0, 0, 4), (0, 0, 4, 0), (0, 2, 0, 2), (0, 4, 4, 4), (4, 0, 4, 4), (4, 4, 4, 4))
        self.agrees((4, 4, ends), [(0, 0, 4, 4)])

    def test_straight_walls_from_end_to_end(self):
        self.agrees((6, 4, ((2, 0, 2, 4),)), [(0, 0, 2, 4), (2, 0, 6, 4)])
        self.agrees((6, 4, ((0, 1, 6, 1),)), [(0, 0, 6, 1), (0, 1, 6, 4)])
        crossed = ((0, 1, 6, 1), (2, 0, 2, 4))
        self.agrees((6, 4, crossed), [(0, 0, 2, 1), (0, 1, 2, 4), (2, 0, 6, 1), (2, 1, 6, 4)])
        rows = tuple((0, k, GREAT, k) for k in range(1, 31))
        strips = [(0, k, GREAT, k + 1) for k in range(30)] + [(0, 30, GREAT, GREAT)]
        self.agrees((GREAT, GREAT, rows), strips)
        columns = tuple((k, 0, k, GREAT) for k in range(1, 31))
        self.agrees((GREAT, GREAT, columns), [(b, a, d, c) for a, b, c, d in strips])

    def test_a_straight_wall_that_ends_before_the_room_does(self):
        self.agrees((6, 4, ((2, 1, 2, 4),)), [(0, 0, 2, 4), (0, 0, 6, 1), (2, 0, 6, 4)])
        self.agrees((6, 4, ((1, 2, 6, 2),)), [(0, 0, 1, 4), (0, 0, 6, 2), (0, 2, 6, 4)])

    def test_one_point(self):
        self.agrees((6, 4, ((2, 1, 2, 1),)), [(0, 0, 2, 4), (0, 0, 6, 1), (0, 1, 6, 4), (2, 0, 6, 4)])

    def test_one_block(self):
        self.agrees((9, 8, ((2, 3, 5, 6),)), [(0, 0, 2, 8), (0, 0, 9, 3), (0, 6, 9, 8), (5, 0, 9, 8)])
        self.agrees((9, 8, ((0, 3, 5, 6),)), [(0, 0, 9, 3), (0, 6, 9, 8), (5, 0, 9, 8)])
        self.agrees((9, 8, ((0, 0, 5, 6),)), [(0, 6, 9, 8), (5, 0, 9, 8)])
        self.agrees((9, 8, ((0, 0, 9, 6),)), [(0, 6, 9, 8)])

    def test_four_points_around_a_box(self):
        room = (7, 7, ((1, 4, 1, 4), (3, 1, 3, 1), (4, 6, 4, 6), (6, 3, 6, 3)))
        self.agrees(room, wide_by_steps(room))
        self.assertIn((1, 1, 6, 6), wide_boxes(room))

    def test_points_on_a_rising_and_a_falling_row(self):
        for row in (rising_row, falling_row):
            for many in range(1, 8):
                self.agrees(row(many), wide_by_steps(row(many)))
            # Strips across and up between points, and boxes in the stairs to either side.
            self.assertEqual(len(wide_boxes(row(30, GREAT // 31))), 4 * 30)
        self.assertIn((0, 3, 4, 8), wide_boxes(rising_row(7)))
        self.assertIn((0, 0, 4, 5), wide_boxes(falling_row(7)))

    def test_thirty_walls_in_great_rooms(self):
        times = GREAT // 10
        self.agrees(room_of_thirty(times), [scaled(box, times) for box in wide_by_steps(room_of_thirty())])
        for room in great_rooms():
            self.agrees(room, wide_by_splitting(room))
        for row in (rising_row(30, GREAT // 31), falling_row(30, GREAT // 31)):
            self.agrees(row, wide_by_splitting(row))

    def test_the_slow_answers_are_alike(self):
        for room in mixed_rooms():
            self.assertEqual(wide_by_splitting(room), wide_by_steps(room))

    def test_more_walls_than_bounds_tell(self):
        walls = [(37 * k % 101, 53 * k % 97, 37 * k % 101, 53 * k % 97 + k % 3) for k in range(60)]
        self.agrees(room_of(101, 101, walls), wide_by_splitting(room_of(101, 101, walls)))

    def test_each_is_wide_and_shown_so(self):
        for room in list(mixed_rooms()) + list(great_rooms(2)):
            for box in wide_boxes(room):
                self.assertIs(is_box(room, box) and is_wide(room, box), True)
                self.assertIs(shows_wide(room, box, tuple(side[-1] for side in bounds_of(room, box))), True)

    def test_turned_about_it_is_the_same(self):
        for wide, high, walls in great_rooms(2):
            turned = room_of(high, wide, [(b, a, d, c) for a, b, c, d in walls])
            boxes = sorted((b, a, d, c) for a, b, c, d in wide_boxes((wide, high, walls)))
            self.agrees(turned, boxes)


class Largest(unittest.TestCase):
    def agrees(self, room, answer):
        told = ask_keeping(self, largest, room)
        self.assertEqual([type(told), type(told[0]), type(told[1])], [tuple, int, list])
        self.assertEqual(told, answer, room)

    def test_no_free_box_is_greater(self):
        for room in some_rooms():
            boxes = free_boxes(room)
            area = max((len(cells(box)) for box in boxes), default=0)
            self.agrees(room, (area, [box for box in boxes if len(cells(box)) == area]))

    def test_empty_rooms(self):
        self.agrees((1, 1, ()), (1, [(0, 0, 1, 1)]))
        self.agrees((GREAT, GREAT, ()), (GREAT * GREAT, [(0, 0, GREAT, GREAT)]))

    def test_filled_rooms(self):
        for room in (*FILLED, GREAT_FILLED):
            self.agrees(room, (0, []))

    def test_several_alike(self):
        self.agrees((4, 4, ((2, 2, 2, 2),)), (8, [(0, 0, 2, 4), (0, 0, 4, 2), (0, 2, 4, 4), (2, 0, 4, 4)]))
        self.agrees((6, 4, ((3, 0, 3, 4),)), (12, [(0, 0, 3, 4), (3, 0, 6, 4)]))
        self.agrees((6, 4, ((2, 0, 4, 4),)), (8, [(0, 0, 2, 4), (4, 0, 6, 4)]))
        self.agrees((GREAT, GREAT, ((GREAT // 2, GREAT // 2, GREAT // 2, GREAT // 2),)), (GREAT * GREAT // 2, [
            (0, 0, GREAT // 2, GREAT), (0, 0, GREAT, GREAT // 2), (0, GREAT // 2, GREAT, GREAT),
            (GREAT // 2, 0, GREAT, GREAT)]))

    def test_one_alone(self):
        self.agrees((6, 4, ((2, 0, 2, 4),)), (16, [(2, 0, 6, 4)]))
        self.agrees((GREAT, GREAT, ((1, 0, 1, GREAT),)), ((GREAT - 1) * GREAT, [(1, 0, GREAT, GREAT)]))

    def test_not_the_widest_nor_the_highest(self):
        room = (10, 10, ((0, 2, 10, 2), (2, 2, 2, 10), (8, 2, 8, 9), (8, 9, 10, 9)))
        self.assertEqual(wide_boxes(room), [(0, 0, 10, 2), (0, 2, 2, 10), (2, 2, 8, 10), (2, 9, 10, 10), (8, 2, 10, 9)])
        self.agrees(room, (48, [(2, 2, 8, 10)]))

    def test_thirty_walls_in_great_rooms(self):
        for room in itertools.chain(great_rooms(), [room_of_thirty(GREAT // 10), rising_row(30, GREAT // 31)]):
            boxes = wide_by_splitting(room)
            area = max((right - left) * (top - low) for left, low, right, top in boxes)
            self.agrees(room, (area, [box for box in boxes if area_of(box) == area]))


class Own(unittest.TestCase):
    def test_told_lists_are_the_asker_s_own(self):
        for room in itertools.chain(mixed_rooms(20), FILLED, great_rooms(1), [(3, 3, ())]):
            tells_own_lists(self, wide_boxes, room)
            tells_own_lists(self, largest, room)

    def test_one_room_does_not_change_another(self):
        rooms = list(mixed_rooms())
        before = [(wide_boxes(room), largest(room)) for room in rooms]
        after = [(wide_boxes(room), largest(room)) for room in rooms[::-1]]
        self.assertEqual(before, after[::-1])


if __name__ == "__main__":
    unittest.main()
