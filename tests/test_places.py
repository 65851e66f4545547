"""Wide boxes around places and between walls: DOC.md [1], [2] and [9]."""

import itertools
import unittest

from emptybox.boxes import wide_boxes
from emptybox.places import around, at_place, bounded_by, clear_pairs
from emptybox.rooms import room_of
from emptybox.widening import bounds_of
from tests.helper import (
    GREAT, all_boxes, ask_keeping, bounds_by_steps, falling_row, free_boxes, great_rooms, is_within, mixed_rooms,
    numbers_in, rising_row, room_of_thirty, scaled, small_rooms, some_rooms, tells_own_lists, wide_by_splitting,
    wide_by_steps)

POINT = (6, 4, ((2, 1, 2, 1),))


class Telling(unittest.TestCase):
    def agrees(self, ask, told, right):
        answer = ask_keeping(self, ask, *told)
        self.assertIs(type(answer), list)
        self.assertEqual(answer, right, told)


class Around(Telling):
    def test_as_one_by_one(self):
        for room in itertools.chain(itertools.islice(small_rooms(), 0, None, 3), mixed_rooms(30)):
            wide = wide_by_steps(room)
            for box in all_boxes(room[0], room[1])[::3]:
                self.agrees(around, (room, box), [one for one in wide if is_within(box, one)])

    def test_a_free_box(self):
        self.agrees(around, (POINT, (0, 0, 1, 1)), [(0, 0, 2, 4), (0, 0, 6, 1)])
        self.agrees(around, (POINT, (0, 0, 1, 2)), [(0, 0, 2, 4)])
        self.agrees(around, (POINT, (3, 2, 4, 3)), [(0, 1, 6, 4), (2, 0, 6, 4)])
        self.agrees(around, ((5, 5, ()), (1, 2, 3, 4)), [(0, 0, 5, 5)])

    def test_each_free_box_lies_in_some(self):
        for room in mixed_rooms(30):
            for box in free_boxes(room):
                self.assertTrue(around(room, box))

    def test_a_wide_box_lies_in_itself_alone(self):
        for room in itertools.chain(mixed_rooms(), great_rooms(1)):
            for box in wide_boxes(room):
                self.agrees(around, (room, box), [box])

    def test_a_box_in_which_a_wall_lies(self):
        self.agrees(around, (POINT, (1, 0, 3, 2)), [])
        self.agrees(around, ((2, 2, ((0, 0, 2, 2),)), (0, 0, 1, 1)), [])
        for room in mixed_rooms(30):
            for box in all_boxes(room[0], room[1]):
                if numbers_in(room, box):
                    self.agrees(around, (room, box), [])

    def test_great_rooms(self):
        for room in great_rooms():
            boxes = wide_by_splitting(room)
            for left, low in itertools.product(range(0, GREAT, GREAT // 5), repeat=2):
                box = (left, low, left + 1 + low // 7, low + 1 + left // 9)
                self.agrees(around, (room, box), [one for one in boxes if is_within(box, one)])


class AtPlace(Telling):
    def test_as_one_by_one(self):
        for room in itertools.chain(itertools.islice(small_rooms(), 0, None, 3), mixed_rooms()):
            wide = wide_by_steps(room)
            for x, y in itertools.product(range(room[0] + 1), range(room[1] + 1)):
                right = [box for box in wide if x in range(box[0], box[2] + 1) and y in range(box[1], box[3] + 1)]
                self.agrees(at_place, (room, x, y), right)

    def test_within(self):
        self.agrees(at_place, (POINT, 1, 3), [(0, 0, 2, 4), (0, 1, 6, 4)])

    def test_at_sides(self):
        self.agrees(at_place, (POINT, 2, 3), [(0, 0, 2, 4), (0, 1, 6, 4), (2, 0, 6, 4)])
        self.agrees(at_place, (POINT, 1, 1), [(0, 0, 2, 4), (0, 0, 6, 1), (0, 1, 6, 4)])
        self.agrees(at_place, (POINT, 3, 4), [(0, 1, 6, 4), (2, 0, 6, 4)])

    def test_at_the_wall_itself(self):
        self.agrees(at_place, (POINT, 2, 1), wide_boxes(POINT))

    def test_within_a_block(self):
        room = (9, 9, ((2, 2, 7, 7),))
        self.agrees(at_place, (room, 4, 4), [])
        self.agrees(at_place, (room, 2, 4), [(0, 0, 2, 9)])
        self.agrees(at_place, (room, 2, 2), [(0, 0, 2, 9), (0, 0, 9, 2)])
        self.agrees(at_place, ((1, 1, ((0, 0, 1, 1),)), 0, 1), [])

    def test_at_corners(self):
        room = (6, 6, ((0, 3, 6, 3), (3, 0, 3, 6)))
        self.agrees(at_place, (room, 3, 3), [(0, 0, 3, 3), (0, 3, 3, 6), (3, 0, 6, 3), (3, 3, 6, 6)])
        self.agrees(at_place, (room, 3, 0), [(0, 0, 3, 3), (3, 0, 6, 3)])

    def test_at_the_room_s_corners(self):
        self.agrees(at_place, (POINT, 0, 0), [(0, 0, 2, 4), (0, 0, 6, 1)])
        self.agrees(at_place, (POINT, 0, 4), [(0, 0, 2, 4), (0, 1, 6, 4)])
        self.agrees(at_place, (POINT, 6, 0), [(0, 0, 6, 1), (2, 0, 6, 4)])
        self.agrees(at_place, (POINT, 6, 4), [(0, 1, 6, 4), (2, 0, 6, 4)])
        for x, y in itertools.product((0, GREAT), repeat=2):
            self.agrees(at_place, ((GREAT, GREAT, ()), x, y), [(0, 0, GREAT, GREAT)])

    def test_great_rooms(self):
        for room in great_rooms():
            boxes = wide_by_splitting(room)
            corners = [(wall[0], wall[3]) for wall in room[2]] + [(0, 0), (GREAT, GREAT), (GREAT // 2, GREAT // 3)]
            for x, y in corners:
                right = [box for box in boxes if not (x < box[0] or box[2] < x or y < box[1] or box[3] < y)]
                self.agrees(at_place, (room, x, y), right)


class BoundedBy(Telling):
    def test_as_step_by_step(self):
        for room in some_rooms():
            bounds = [(box, set(sum(bounds_by_steps(room, box), []))) for box in wide_by_steps(room)]
            for i, j in itertools.product(range(len(room[2])), repeat=2):
                self.agrees(bounded_by, (room, i, j), [box for box, numbers in bounds if {i, j} <= numbers])

    def test_one_wall_twice(self):
        self.agrees(bounded_by, (POINT, 0, 0), wide_boxes(POINT))
        room = (6, 4, ((2, 0, 2, 4), (4, 0, 4, 4)))
        self.agrees(bounded_by, (room, 0, 0), [(0, 0, 2, 4), (2, 0, 4, 4)])
        self.agrees(bounded_by, (room, 1, 1), [(2, 0, 4, 4), (4, 0, 6, 4)])

    def test_two_walls(self):
        room = (6, 4, ((2, 0, 2, 4), (4, 0, 4, 4)))
        self.agrees(bounded_by, (room, 0, 1), [(2, 0, 4, 4)])
        self.agrees(bounded_by, (room, 1, 0), [(2, 0, 4, 4)])
        self.agrees(bounded_by, ((7, 4, room[2] + ((6, 0, 6, 4),)), 0, 2), [])

    def test_both_at_the_same_side(self):
        room = (6, 4, ((2, 1, 2, 1), (2, 3, 2, 3)))
        self.agrees(bounded_by, (room, 0, 1), [(0, 0, 2, 4), (0, 1, 6, 3), (2, 0, 6, 4)])

    def test_walls_that_bound_nothing(self):
        room = (6, 6, ((1, 1, 5, 5), (3, 3, 3, 3)))
        self.agrees(bounded_by, (room, 1, 1), [])
        self.agrees(bounded_by, (room, 0, 1), [])
        self.agrees(bounded_by, (room, 0, 0), wide_boxes(room))

    def test_walls_at_the_room_s_end(self):
        room = (4, 4, ((0, 1, 0, 3), (4, 2, 4, 2)))
        self.agrees(bounded_by, (room, 0, 1), [(0, 0, 4, 4)])
        self.agrees(bounded_by, (room, 0, 0), [(0, 0, 4, 4)])

    def test_great_rooms(self):
        for room in great_rooms(3):
            bounds = [(box, sum(bounds_of(room, box), [])) for box in wide_by_splitting(room)]
            for i, j in ((0, 0), (0, 1), (3, 20), (29, 29), (29, 2)):
                self.agrees(bounded_by, (room, i, j), [box for box, one in bounds if i in one and j in one])
        times = GREAT // 10
        small, great = room_of_thirty(), room_of_thirty(times)
        for i in range(30):
            boxes = [scaled(box, times) for box in wide_by_steps(small) if i in sum(bounds_by_steps(small, box), [])]
            self.agrees(bounded_by, (great, i, i), boxes)


class ClearPairs(Telling):
    def test_as_one_by_one(self):
        for room in itertools.chain(some_rooms(), mixed_rooms(60, 16)):
            right = []
            for i, j in itertools.combinations(range(len(room[2])), 2):
                (x, y, c, d), (u, v, e, f) = room[2][i], room[2][j]
                if (x, y, u, v) == (c, d, e, f) and x != u and y != v:
                    if not numbers_in(room, (min(x, u), min(y, v), max(x, u), max(y, v))):
                        right.append((i, j))
            self.agrees(clear_pairs, (room,), right)

    def test_all_rooms_of_three_points(self):
        points = [(x, y, x, y) for x in range(4) for y in range(4)]
        for walls in itertools.combinations(points, 3):
            right = []
            for i, j in ((0, 1), (0, 2), (1, 2)):
                left, right_side = walls[i][0], walls[j][0]
                low, top = sorted((walls[i][1], walls[j][1]))
                inner = [(x, y) for x, y, *_ in walls if left < x < right_side and low < y < top]
                if left < right_side and low < top and not inner:
                    right.append((i, j))
            self.agrees(clear_pairs, ((3, 3, walls),), right)

    def test_points_alone(self):
        self.agrees(clear_pairs, ((5, 5, ((0, 0, 0, 0), (2, 2, 2, 3), (3, 3, 4, 4))),), [])
        self.agrees(clear_pairs, ((5, 5, ((0, 0, 0, 2), (1, 1, 1, 1))),), [])
        self.agrees(clear_pairs, ((5, 5, ((0, 0, 0, 0), (1, 1, 1, 1))),), [(0, 1)])
        self.agrees(clear_pairs, ((5, 5, ()),), [])

    def test_unlike_across_and_up(self):
        self.agrees(clear_pairs, ((5, 5, ((1, 1, 1, 1), (1, 4, 1, 4), (4, 1, 4, 1))),), [(1, 2)])

    def test_walls_between(self):
        for wall in ((2, 2, 2, 2), (0, 2, 5, 2), (1, 2, 2, 3), (2, 0, 2, 2), (1, 1, 4, 4)):
            room = room_of(5, 5, [(1, 1, 1, 1), (4, 4, 4, 4), wall])
            pairs = clear_pairs(room)
            both = (room[2].index((1, 1, 1, 1)), room[2].index((4, 4, 4, 4)))
            self.assertNotIn(both, pairs, wall)

    def test_walls_that_only_touch_the_box(self):
        for wall in ((1, 2, 1, 3), (0, 0, 1, 5), (0, 4, 5, 5), (4, 0, 5, 5), (1, 1, 4, 1), (4, 1, 4, 4), (0, 0, 1, 1)):
            room = room_of(5, 5, [(1, 1, 1, 1), (4, 4, 4, 4), wall])
            both = (room[2].index((1, 1, 1, 1)), room[2].index((4, 4, 4, 4)))
            self.agrees(clear_pairs, (room,), [both])

    def test_rows_of_points(self):
        for row in (rising_row, falling_row):
            self.agrees(clear_pairs, (row(30, GREAT // 31),), [(k, k + 1) for k in range(29)])

    def test_points_at_the_room_s_corners(self):
        corners = ((0, 0, 0, 0), (0, GREAT, 0, GREAT), (GREAT, 0, GREAT, 0), (GREAT, GREAT, GREAT, GREAT))
        self.agrees(clear_pairs, ((GREAT, GREAT, corners),), [(0, 3), (1, 2)])


class Own(unittest.TestCase):
    def test_told_lists_are_the_asker_s_own(self):
        for room in mixed_rooms(20):
            tells_own_lists(self, around, room, (0, 0, 1, 1))
            tells_own_lists(self, at_place, room, 1, 1)
            tells_own_lists(self, clear_pairs, room)
            for i in range(len(room[2])):
                tells_own_lists(self, bounded_by, room, i, 0)

    def test_told_boxes_and_pairs_are_tuples(self):
        room = room_of_thirty()
        told = around(room, (4, 5, 5, 6)) + at_place(room, 5, 5) + bounded_by(room, 1, 1)
        told += clear_pairs(rising_row(3))
        self.assertEqual({type(one) for one in told}, {tuple})


if __name__ == "__main__":
    unittest.main()
