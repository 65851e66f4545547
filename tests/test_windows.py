"""Boxes within windows: DOC.md [1], [2] and [8]."""

import itertools
import unittest

from emptybox.boxes import wide_boxes
from emptybox.rooms import in_both
from emptybox.windows import greatest_in, in_window
from tests.helper import (
    GREAT, all_boxes, area_by_cells, ask_keeping, great_rooms, is_within, mixed_rooms, not_within_another,
    numbers_in, reach_by_steps, rising_row, room_of_thirty, scaled, small_rooms, step_out, tells_own_lists,
    wide_by_splitting)

# Windows of great rooms: at corners, in the middle, narrow ones and the least.
GREAT_WINDOWS = [(0, 0, GREAT // 2, GREAT // 3), (GREAT // 3, GREAT // 4, 2 * GREAT // 3, GREAT),
                 (GREAT // 2, 0, GREAT // 2 + 1, GREAT), (0, GREAT - 7, GREAT, GREAT), (1, 1, GREAT - 1, GREAT - 1),
                 (GREAT - 1, GREAT - 1, GREAT, GREAT), (0, 0, GREAT, GREAT)]


def whole(room):
    return (0, 0, room[0], room[1])


def boxes_by_steps(room, window):
    """The free boxes of a window none of whose sides can go a step further in it, by trying each box."""
    inside = [box for box in all_boxes(room[0], room[1]) if is_within(box, window) and not numbers_in(room, box)]
    free = set(inside)
    return [box for box in inside if not any(step_out(box, side, 1) in free for side in range(4))]


def cut_by_window(boxes, window):
    """What boxes have in common with a window, but for what lies in another one of these."""
    cut = [in_both(box, window) for box in boxes]
    return not_within_another(box for box in cut if box is not None)


def some_windows(room, step):
    return all_boxes(room[0], room[1])[::step]


class InWindow(unittest.TestCase):
    def agrees(self, room, window, boxes):
        told = ask_keeping(self, in_window, room, window)
        self.assertIs(type(told), list)
        self.assertEqual(told, boxes, (room, window))

    def test_as_all_boxes_one_by_one(self):
        for room in small_rooms():
            for window in some_windows(room, 1):
                self.agrees(room, window, boxes_by_steps(room, window))
        for at, room in enumerate(mixed_rooms()):
            for window in some_windows(room, 23)[at % 3:]:
                self.agrees(room, window, boxes_by_steps(room, window))

    def test_what_wide_boxes_have_in_common_with_it(self):
        for room in mixed_rooms():
            for window in some_windows(room, 5):
                self.agrees(room, window, cut_by_window(wide_boxes(room), window))

    def test_all_of_the_room(self):
        for room in itertools.chain(small_rooms(), mixed_rooms(), great_rooms(2)):
            self.agrees(room, whole(room), wide_boxes(room))

    def test_no_side_can_be_moved_further_within_it(self):
        for room in mixed_rooms(20):
            for window in some_windows(room, 17):
                for box in in_window(room, window):
                    for side in range(4):
                        far = reach_by_steps(room, box, side)
                        self.assertTrue(far == 0 or box[side] == window[side])

    def test_no_walls(self):
        self.agrees((5, 5, ()), (1, 2, 3, 4), [(1, 2, 3, 4)])
        self.agrees((1, 1, ()), (0, 0, 1, 1), [(0, 0, 1, 1)])
        self.agrees((GREAT, GREAT, ()), (7, 8, GREAT - 9, GREAT), [(7, 8, GREAT - 9, GREAT)])

    def test_a_wall_in_the_middle(self):
        room = (9, 9, ((4, 4, 4, 4),))
        self.agrees(room, (2, 3, 6, 8), [(2, 3, 4, 8), (2, 3, 6, 4), (2, 4, 6, 8), (4, 3, 6, 8)])

    def test_walls_that_only_touch_it(self):
        room = (9, 9, ((0, 0, 2, 9), (2, 3, 6, 3), (4, 8, 5, 9), (6, 2, 6, 4)))
        self.agrees(room, (2, 3, 6, 8), [(2, 3, 6, 8)])

    def test_walls_that_reach_beyond_it(self):
        room = (9, 9, ((0, 5, 4, 6), (5, 0, 5, 4)))
        self.agrees(room, (2, 3, 7, 8), [
            (2, 3, 5, 5), (2, 4, 7, 5), (2, 6, 7, 8), (4, 3, 5, 8), (4, 4, 7, 8), (5, 3, 7, 8)])

    def test_windows_filled_by_a_wall(self):
        self.agrees((9, 9, ((2, 2, 7, 7),)), (2, 2, 7, 7), [])
        self.agrees((9, 9, ((2, 2, 7, 7),)), (3, 3, 4, 5), [])
        self.agrees((9, 9, ((0, 0, 4, 9), (4, 0, 9, 9))), (2, 2, 7, 7), [])
        self.agrees((9, 9, ((2, 2, 7, 7),)), (2, 2, 7, 8), [(2, 7, 7, 8)])
        self.agrees((GREAT, GREAT, ((0, 0, GREAT, GREAT),)), (1, 1, GREAT, GREAT), [])

    def test_windows_one_wide_or_high(self):
        room = (9, 9, ((0, 4, 9, 4), (3, 6, 5, 7)))
        self.agrees(room, (4, 0, 5, 9), [(4, 0, 5, 4), (4, 4, 5, 6), (4, 7, 5, 9)])
        self.agrees(room, (0, 6, 9, 7), [(0, 6, 3, 7), (5, 6, 9, 7)])
        self.agrees(room, (4, 6, 5, 7), [])
        self.agrees(room, (8, 8, 9, 9), [(8, 8, 9, 9)])

    def test_thirty_walls_in_great_rooms(self):
        for room in itertools.chain(great_rooms(), [rising_row(30, GREAT // 31)]):
            boxes = wide_by_splitting(room)
            for window in GREAT_WINDOWS:
                if in_both(window, whole(room)) == window:
                    self.agrees(room, window, cut_by_window(boxes, window))

    def test_a_great_room_as_a_small_one(self):
        times = GREAT // 10
        small, great = room_of_thirty(), room_of_thirty(times)
        for window in some_windows(small, 97):
            boxes = boxes_by_steps(small, window)
            self.agrees(great, scaled(window, times), [scaled(box, times) for box in boxes])


class GreatestIn(unittest.TestCase):
    def agrees(self, room, window, answer):
        told = ask_keeping(self, greatest_in, room, window)
        self.assertEqual([type(told), type(told[0])], [tuple, int])
        self.assertEqual(told, answer, (room, window))

    def test_as_all_boxes_one_by_one(self):
        for room in itertools.chain(itertools.islice(small_rooms(), 0, None, 3), mixed_rooms()):
            for window in some_windows(room, 23):
                boxes = boxes_by_steps(room, window)
                area = max((area_by_cells(box) for box in boxes), default=0)
                firsts = [box for box in boxes if area_by_cells(box) == area] + [None]
                self.agrees(room, window, (area, firsts[0]))

    def test_none(self):
        self.agrees((9, 9, ((2, 2, 7, 7),)), (2, 2, 7, 7), (0, None))
        self.agrees((9, 9, ((2, 2, 7, 7),)), (3, 4, 4, 5), (0, None))
        self.agrees((1, 1, ((0, 0, 1, 1),)), (0, 0, 1, 1), (0, None))
        self.agrees((GREAT, GREAT, ((0, 0, GREAT, GREAT),)), (0, 0, GREAT, GREAT), (0, None))

    def test_the_first_of_several(self):
        self.agrees((4, 4, ((2, 2, 2, 2),)), (0, 0, 4, 4), (8, (0, 0, 2, 4)))
        self.agrees((6, 6, ((3, 3, 3, 3),)), (1, 1, 5, 5), (8, (1, 1, 3, 5)))
        self.agrees((6, 6, ((0, 3, 6, 3),)), (1, 1, 5, 5), (8, (1, 1, 5, 3)))
        self.agrees((6, 6, ((3, 2, 3, 2),)), (1, 1, 5, 5), (12, (1, 2, 5, 5)))

    def test_the_last_may_be_the_greatest(self):
        self.agrees((6, 6, ((2, 0, 2, 6),)), (1, 1, 5, 5), (12, (2, 1, 5, 5)))

    def test_great_rooms(self):
        self.agrees((GREAT, GREAT, ()), (0, 0, GREAT, GREAT), (GREAT * GREAT, (0, 0, GREAT, GREAT)))
        for room in great_rooms():
            boxes = wide_by_splitting(room)
            for window in GREAT_WINDOWS:
                cut = cut_by_window(boxes, window)
                areas = [(right - left) * (top - low) for left, low, right, top in cut]
                answer = (max(areas), cut[areas.index(max(areas))]) if cut else (0, None)
                self.agrees(room, window, answer)


class Own(unittest.TestCase):
    def test_told_lists_are_the_asker_s_own(self):
        for room in mixed_rooms(20):
            tells_own_lists(self, in_window, room, whole(room))
            tells_own_lists(self, greatest_in, room, whole(room))
        tells_own_lists(self, in_window, (2, 2, ((0, 0, 2, 2),)), (0, 0, 1, 1))

    def test_one_window_does_not_change_another(self):
        room = room_of_thirty()
        windows = some_windows(room, 97)
        before = [(in_window(room, window), greatest_in(room, window)) for window in windows]
        after = [(in_window(room, window), greatest_in(room, window)) for window in windows[::-1]]
        self.assertEqual(before, after[::-1])


if __name__ == "__main__":
    unittest.main()
