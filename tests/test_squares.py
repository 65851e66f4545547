"""Free squares: DOC.md [1], [2] and [11]."""

import itertools
import unittest

from emptybox.rooms import is_free
from emptybox.squares import largest_square, squares_of
from tests.helper import (
    FILLED, GREAT, all_boxes, ask_keeping, free_boxes, mixed_rooms, rising_row, room_of_forty, room_of_thirty,
    some_rooms, tells_own_lists)


def squares_by_boxes(room):
    """For each side of a free square its corners, by trying each box."""
    found = {}
    for left, low, right, top in free_boxes(room):
        if right - left == top - low:
            found.setdefault(right - left, []).append((left, low))
    return found


class SquaresOf(unittest.TestCase):
    def agrees(self, room, side, corners):
        told = ask_keeping(self, squares_of, room, side)
        self.assertIs(type(told), list)
        self.assertEqual(told, corners, (room, side))

    def test_as_all_boxes_one_by_one(self):
        for room in some_rooms():
            found = squares_by_boxes(room)
            for side in range(1, max(room[:2]) + 2):
                self.agrees(room, side, found.get(side, []))

    def test_no_walls(self):
        self.agrees((1, 1, ()), 1, [(0, 0)])
        self.agrees((3, 2, ()), 1, [(0, 0), (0, 1), (1, 0), (1, 1), (2, 0), (2, 1)])
        self.agrees((3, 2, ()), 2, [(0, 0), (1, 0)])
        self.agrees((2, 3, ()), 2, [(0, 0), (0, 1)])
        self.agrees((40, 40, ()), 40, [(0, 0)])
        self.agrees((40, 40, ()), 1, list(itertools.product(range(40), repeat=2)))

    def test_sides_beyond_the_room(self):
        for side in (3, 4, 41, GREAT):
            self.agrees((3, 2, ()), side, [])
            self.agrees((2, 3, ()), side, [])
        self.agrees((40, 40, ()), 41, [])
        self.agrees((1, 40, ()), 2, [])
        self.agrees((40, 1, ()), 2, [])

    def test_filled_rooms(self):
        for room in FILLED:
            self.agrees(room, 1, [])
            self.agrees(room, 4, [])

    def test_around_a_point(self):
        self.agrees((4, 4, ((2, 2, 2, 2),)), 2, [
            (0, 0), (0, 1), (0, 2), (1, 0), (1, 2), (2, 0), (2, 1), (2, 2)])
        self.agrees((4, 4, ((2, 2, 2, 2),)), 3, [])

    def test_thirty_walls_in_a_room_of_forty(self):
        room = room_of_forty()
        self.assertEqual(len(room[2]), 30)
        for side in (1, 2, 5, 9, 40):
            right = [box[:2] for box in itertools.product(range(41 - side), repeat=2)
                     if is_free(room, (box[0], box[1], box[0] + side, box[1] + side))]
            self.agrees(room, side, right)

    def test_a_free_square_holds_lesser_ones(self):
        for room in mixed_rooms():
            for side in range(2, 8):
                lesser = squares_of(room, side - 1)
                for left, low in squares_of(room, side):
                    self.assertTrue({(left, low), (left + 1, low), (left, low + 1), (left + 1, low + 1)} <= set(lesser))


class LargestSquare(unittest.TestCase):
    def agrees(self, room, answer):
        told = ask_keeping(self, largest_square, room)
        self.assertEqual([type(told), type(told[0]), type(told[1])], [tuple, int, list])
        self.assertEqual(told, answer, room)

    def test_as_all_boxes_one_by_one(self):
        for room in itertools.chain(some_rooms(), mixed_rooms(60, 16)):
            found = squares_by_boxes(room)
            side = max(found, default=0)
            self.agrees(room, (side, found.get(side, [])))

    def test_no_walls(self):
        self.agrees((1, 1, ()), (1, [(0, 0)]))
        self.agrees((40, 40, ()), (40, [(0, 0)]))
        self.agrees((5, 3, ()), (3, [(0, 0), (1, 0), (2, 0)]))
        self.agrees((3, 5, ()), (3, [(0, 0), (0, 1), (0, 2)]))
        self.agrees((40, 1, ()), (1, [(k, 0) for k in range(40)]))

    def test_filled_rooms(self):
        for room in FILLED:
            self.agrees(room, (0, []))

    def test_not_in_the_greatest_box(self):
        room = (40, 9, ((0, 3, 40, 3), (5, 3, 5, 9), (11, 3, 40, 9)))
        self.agrees(room, (6, [(5, 3)]))

    def test_several_in_several_boxes(self):
        self.agrees((4, 4, ((2, 2, 2, 2),)), (2, [
            (0, 0), (0, 1), (0, 2), (1, 0), (1, 2), (2, 0), (2, 1), (2, 2)]))
        self.agrees((6, 6, ((0, 3, 6, 3), (3, 0, 3, 6))), (3, [(0, 0), (0, 3), (3, 0), (3, 3)]))

    def test_rows_of_points(self):
        self.agrees(rising_row(3), (2, [(0, 1), (0, 2), (1, 0), (1, 2), (2, 0), (2, 1)]))

    def test_rooms_of_forty(self):
        for room in (room_of_forty(), room_of_thirty(4)):
            side, corners = ask_keeping(self, largest_square, room)
            squares = {high: [box[:2] for box in all_squares(room, high)] for high in (side, side + 1)}
            self.assertEqual(corners, squares[side])
            self.assertEqual(squares[side + 1], [])
            self.assertTrue(corners)


def all_squares(room, side):
    boxes = [(x, y, x + side, y + side) for x in range(41 - side) for y in range(41 - side)]
    return [box for box in boxes if not any(
        box[0] < c and a < box[2] and box[1] < d and b < box[3] for a, b, c, d in room[2])]


class Own(unittest.TestCase):
    def test_told_lists_are_the_asker_s_own(self):
        for room in itertools.chain(mixed_rooms(20), FILLED, [room_of_forty()]):
            tells_own_lists(self, largest_square, room)
            tells_own_lists(self, squares_of, room, 1)
            tells_own_lists(self, squares_of, room, 41)

    def test_told_corners_are_pairs(self):
        for corner in squares_of((4, 4, ((2, 2, 2, 2),)), 2) + largest_square((4, 4, ()))[1]:
            self.assertEqual([type(corner), len(corner)], [tuple, 2])

    def test_a_told_corner_stands_for_a_free_box(self):
        for room in mixed_rooms():
            side, corners = largest_square(room)
            boxes = all_boxes(room[0], room[1])
            for left, low in corners:
                self.assertIn((left, low, left + side, low + side), boxes)


if __name__ == "__main__":
    unittest.main()
