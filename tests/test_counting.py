"""How many and where: DOC.md [1], [2] and [12]."""

import collections
import itertools
import unittest

from emptybox.boxes import wide_boxes
from emptybox.counting import areas, count_free, fits, sizes_of
from emptybox.rooms import is_free, room_of
from tests.helper import (
    FILLED, GREAT, GREAT_FILLED, all_boxes, area_by_cells, ask_keeping, falling_row, free_boxes, great_rooms,
    mixed_rooms, rising_row, room_of_forty, room_of_thirty, some_rooms, tells_own_lists, wide_by_splitting,
    wide_by_steps)


def size_of(box):
    return (box[2] - box[0], box[3] - box[1])


def corners_by_boxes(room):
    """For each size of a free box its corners, by trying each box."""
    found = {}
    for box in free_boxes(room):
        found.setdefault(size_of(box), []).append(box[:2])
    return found


def sizes_by_boxes(room):
    """The sizes that no other one holds, by trying each box with each other one."""
    sizes = set(corners_by_boxes(room))
    return sorted(one for one in sizes
                  if [other for other in sizes if other[0] >= one[0] and other[1] >= one[1]] == [one])


def count_by_rows(room):
    """How many free boxes there are, by trying each box of a room 40 wide and high row by row of cells."""
    many = 0
    for left, low in itertools.product(range(room[0]), range(room[1])):
        most = room[0]
        for top in range(low + 1, room[1] + 1):
            # A box that goes higher is at most as wide as the one below it.
            while most > left and any(left < c and a < most and low < d and b < top for a, b, c, d in room[2]):
                most -= 1
            many += most - left
    return many


class Areas(unittest.TestCase):
    def agrees(self, room, pairs):
        told = ask_keeping(self, areas, room)
        self.assertIs(type(told), list)
        self.assertEqual(told, pairs, room)
        for pair in told:
            self.assertEqual([type(pair), len(pair), type(pair[0]), type(pair[1])], [tuple, 2, int, int])

    def test_as_wide_boxes_one_by_one(self):
        for room in some_rooms():
            counts = collections.Counter(area_by_cells(box) for box in wide_by_steps(room))
            self.agrees(room, sorted(counts.items()))

    def test_great_rooms(self):
        for room in great_rooms():
            counts = collections.Counter(
                (right - left) * (top - low) for left, low, right, top in wide_by_splitting(room))
            self.agrees(room, sorted(counts.items()))

    def test_thirty_walls_made_greater(self):
        times = GREAT // 10
        small = areas(room_of_thirty())
        self.assertTrue(any(many > 1 for area, many in small))
        self.agrees(room_of_thirty(times), [(area * times * times, many) for area, many in small])

    def test_all_are_counted(self):
        for room in itertools.chain(mixed_rooms(), great_rooms(2)):
            self.assertEqual(sum(many for area, many in areas(room)), len(wide_boxes(room)))

    def test_empty_and_filled_rooms(self):
        self.agrees((1, 1, ()), [(1, 1)])
        self.agrees((7, 3, ()), [(21, 1)])
        self.agrees((GREAT, GREAT, ()), [(10 ** 12, 1)])
        for room in (*FILLED, GREAT_FILLED):
            self.agrees(room, [])

    def test_several_of_one_area(self):
        self.agrees((4, 4, ((2, 2, 2, 2),)), [(8, 4)])
        self.agrees((6, 4, ((2, 1, 2, 1),)), [(6, 1), (8, 1), (16, 1), (18, 1)])
        self.agrees((4, 4, ((0, 2, 4, 2), (2, 0, 2, 4))), [(4, 4)])

    def test_rows_of_points(self):
        self.agrees(rising_row(2), [(3, 6), (4, 2)])
        self.agrees(falling_row(2), [(3, 6), (4, 2)])


class Fits(unittest.TestCase):
    def agrees(self, room, size, corners):
        told = ask_keeping(self, fits, room, *size)
        self.assertIs(type(told), list)
        self.assertEqual(told, corners, (room, size))

    def test_as_all_boxes_one_by_one(self):
        for room in some_rooms():
            found = corners_by_boxes(room)
            for size in itertools.product(range(1, room[0] + 2), range(1, room[1] + 2)):
                self.agrees(room, size, found.get(size, []))

    def test_no_walls(self):
        self.agrees((1, 1, ()), (1, 1), [(0, 0)])
        self.agrees((3, 2, ()), (2, 1), [(0, 0), (0, 1), (1, 0), (1, 1)])
        self.agrees((3, 2, ()), (1, 2), [(0, 0), (1, 0), (2, 0)])
        self.agrees((3, 2, ()), (3, 2), [(0, 0)])
        self.agrees((40, 40, ()), (1, 1), list(itertools.product(range(40), repeat=2)))
        self.agrees((40, 40, ()), (40, 39), [(0, 0), (0, 1)])

    def test_wide_and_high_are_not_exchanged(self):
        self.agrees((5, 2, ()), (4, 2), [(0, 0), (1, 0)])
        self.agrees((5, 2, ()), (2, 4), [])

    def test_sizes_beyond_the_room(self):
        for far in (4, 5, 41, GREAT):
            self.agrees((3, 3, ()), (far, 1), [])
            self.agrees((3, 3, ()), (1, far), [])
            self.agrees((3, 3, ()), (far, far), [])
        self.agrees((40, 40, ()), (41, 40), [])
        self.agrees((40, 40, ()), (40, 41), [])

    def test_filled_rooms(self):
        for room in FILLED:
            self.agrees(room, (1, 1), [])
            self.agrees(room, (room[0], room[1]), [])

    def test_around_a_point(self):
        self.agrees((4, 3, ((2, 1, 2, 1),)), (3, 1), [(0, 0), (0, 1), (0, 2), (1, 0), (1, 1), (1, 2)])
        self.agrees((4, 3, ((2, 1, 2, 1),)), (3, 2), [(0, 1), (1, 1)])

    def test_rooms_of_forty(self):
        for room in (room_of_forty(), room_of_thirty(4)):
            for size in ((1, 1), (2, 7), (9, 3), (40, 1), (1, 40)):
                boxes = [(x, y, x + size[0], y + size[1])
                         for x in range(41 - size[0]) for y in range(41 - size[1])]
                self.agrees(room, size, [box[:2] for box in boxes if is_free(room, box)])


class CountFree(unittest.TestCase):
    def agrees(self, room, many):
        told = ask_keeping(self, count_free, room)
        self.assertIs(type(told), int)
        self.assertEqual(told, many, room)

    def test_as_all_boxes_one_by_one(self):
        for room in itertools.chain(some_rooms(), mixed_rooms(60, 16)):
            self.agrees(room, len(free_boxes(room)))

    def test_empty_rooms(self):
        self.agrees((1, 1, ()), 1)
        self.agrees((2, 1, ()), 3)
        self.agrees((2, 2, ()), 9)
        self.agrees((40, 1, ()), 820)
        self.agrees((1, 40, ()), 820)
        self.agrees((40, 40, ()), 820 * 820)

    def test_filled_rooms(self):
        for room in FILLED:
            self.agrees(room, 0)

    def test_walls_at_the_room_s_end_change_nothing(self):
        ends = ((0, 0, 0, 4), (0, 0, 4, 0), (0, 2, 0, 2), (0, 4, 4, 4), (4, 1, 4, 1), (4, 2, 4, 4))
        self.agrees((4, 4, ends), 100)

    def test_one_point(self):
        self.agrees((2, 2, ((1, 1, 1, 1),)), 8)
        self.agrees((40, 40, ((20, 20, 20, 20),)), 820 * 820 - 400 * 400)

    def test_walls_from_end_to_end(self):
        self.agrees((40, 40, ((0, 10, 40, 10),)), 820 * (55 + 465))
        self.agrees((40, 40, ((10, 0, 10, 40),)), 820 * (55 + 465))
        self.agrees((40, 40, ((10, 0, 20, 40),)), 820 * (55 + 210))

    def test_all_points_of_a_room(self):
        room = room_of(5, 5, [(x, y, x, y) for x in range(6) for y in range(6)])
        self.agrees(room, len(free_boxes(room)))

    def test_rooms_of_forty(self):
        for room in (room_of_forty(), room_of_thirty(4), rising_row(30), falling_row(30)):
            self.agrees(room, count_by_rows(room))

    def test_sizes_that_fit_come_to_all(self):
        for room in mixed_rooms(20):
            sizes = itertools.product(range(1, room[0] + 1), range(1, room[1] + 1))
            self.assertEqual(sum(len(fits(room, *size)) for size in sizes), count_free(room))


class SizesOf(unittest.TestCase):
    def agrees(self, room, sizes):
        told = ask_keeping(self, sizes_of, room)
        self.assertIs(type(told), list)
        self.assertEqual(told, sizes, room)
        for size in told:
            self.assertEqual([type(size), len(size), type(size[0]), type(size[1])], [tuple, 2, int, int])

    def test_as_all_boxes_one_by_one(self):
        for room in itertools.chain(some_rooms(), mixed_rooms(60, 16)):
            self.agrees(room, sizes_by_boxes(room))

    def test_no_size_in_another_one(self):
        for room in itertools.chain(mixed_rooms(), [room_of_forty(), room_of_thirty(4)]):
            told = sizes_of(room)
            for one, other in itertools.permutations(told, 2):
                self.assertFalse(one[0] <= other[0] and one[1] <= other[1], (room, one, other))
            self.assertEqual([one[1] for one in told], sorted([one[1] for one in told], reverse=True))

    def test_each_fits_and_none_greater(self):
        for room in (room_of_forty(), room_of_thirty(4), rising_row(30)):
            for wide, high in sizes_of(room):
                self.assertTrue(fits(room, wide, high))
                self.assertEqual(fits(room, wide + 1, high) + fits(room, wide, high + 1), [])

    def test_empty_and_filled_rooms(self):
        self.agrees((1, 1, ()), [(1, 1)])
        self.agrees((40, 7, ()), [(40, 7)])
        for room in FILLED:
            self.agrees(room, [])

    def test_one_size_of_several_boxes(self):
        self.agrees((4, 4, ((2, 2, 2, 2),)), [(2, 4), (4, 2)])
        self.agrees((4, 4, ((0, 2, 4, 2), (2, 0, 2, 4))), [(2, 2)])

    def test_a_lesser_wide_box_elsewhere(self):
        self.agrees((6, 4, ((2, 1, 2, 1),)), [(4, 4), (6, 3)])
        self.agrees((40, 40, ((10, 0, 10, 40),)), [(30, 40)])

    def test_as_wide_or_as_high_but_lesser(self):
        self.agrees((5, 3, ((0, 1, 5, 1),)), [(5, 2)])
        self.agrees((3, 5, ((1, 0, 1, 5),)), [(2, 5)])

    def test_rows_of_points(self):
        self.agrees(rising_row(3), [(1, 4), (2, 3), (3, 2), (4, 1)])
        self.agrees(falling_row(3), [(1, 4), (2, 3), (3, 2), (4, 1)])


class Own(unittest.TestCase):
    def test_told_lists_are_the_asker_s_own(self):
        for room in itertools.chain(mixed_rooms(20), FILLED, [room_of_forty()]):
            for ask, *told in ((areas, room), (sizes_of, room), (fits, room, 1, 2), (fits, room, 41, 1)):
                tells_own_lists(self, ask, *told)

    def test_told_corners_stand_for_free_boxes(self):
        for room in mixed_rooms(20):
            for wide, high in sizes_of(room):
                for left, low in fits(room, wide, high):
                    self.assertIn((left, low, left + wide, low + high), all_boxes(room[0], room[1]))
                    self.assertTrue(is_free(room, (left, low, left + wide, low + high)))


if __name__ == "__main__":
    unittest.main()
