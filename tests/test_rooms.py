"""Rooms, walls and boxes: DOC.md [2], [3] and [4]."""

import itertools
import unittest

from emptybox.rooms import (
    area_of, in_both, is_box, is_free, is_room, kind_of, lies_in, room_of, walls_in)
from tests.helper import (
    GREAT, all_boxes, all_walls, ask_keeping, cells, mixed_rooms, nested, numbers_in, odd_things,
    room_of_thirty, scaled, small_rooms, with_part)

ROOM = (8, 6, ((0, 0, 2, 2), (3, 1, 3, 1), (4, 0, 4, 6)))


class IsRoom(unittest.TestCase):
    def right(self, thing):
        self.assertIs(ask_keeping(self, is_room, thing), True, thing)

    def wrong(self, thing):
        self.assertIs(ask_keeping(self, is_room, thing), False, thing)

    def test_ordinary(self):
        self.right(ROOM)
        self.right((1, 1, ()))
        self.right((5, 9, ((0, 0, 5, 9),)))

    def test_all_small_and_mixed_rooms(self):
        for room in itertools.chain(small_rooms(), mixed_rooms()):
            self.right(room)

    def test_least_and_greatest(self):
        self.right((1, 1, tuple(all_walls(1, 1))))
        self.right((GREAT, GREAT, ()))
        self.right((GREAT, GREAT, ((0, 0, GREAT, GREAT), (GREAT, GREAT, GREAT, GREAT))))
        self.right(room_of_thirty())
        self.right(room_of_thirty(GREAT // 10))

    def test_bounds_are_not_looked_at(self):
        self.right((GREAT + 1, 10 ** 30, ((0, 0, GREAT + 1, 10 ** 30),)))
        self.right((40, 40, tuple((x, y, x, y) for x in range(41) for y in range(41))))

    def test_wide_and_high_from_one(self):
        for size in (0, -1, -GREAT):
            self.wrong((size, 1, ()))
            self.wrong((1, size, ()))

    def test_walls_outside(self):
        for wall in ((-1, 0, 1, 1), (0, -1, 1, 1), (0, 0, 9, 1), (0, 0, 1, 7), (9, 0, 9, 0), (0, 7, 0, 7)):
            self.wrong((8, 6, (wall,)))

    def test_walls_at_the_room_s_ends(self):
        for wall in ((0, 0, 0, 6), (0, 0, 8, 0), (8, 0, 8, 6), (0, 6, 8, 6), (8, 6, 8, 6), (0, 0, 8, 6)):
            self.right((8, 6, (wall,)))

    def test_walls_turned_about(self):
        self.wrong((8, 6, ((2, 0, 1, 3),)))
        self.wrong((8, 6, ((0, 3, 2, 1),)))

    def test_walls_must_rise(self):
        first, second, third = ROOM[2]
        self.wrong((8, 6, (second, first)))
        self.wrong((8, 6, (first, third, second)))
        self.wrong((8, 6, (first, second, second)))
        self.wrong((8, 6, (first, first)))
        self.right((8, 6, ((0, 0, 1, 2), (0, 0, 2, 1))))
        self.wrong((8, 6, ((0, 0, 2, 1), (0, 0, 1, 2))))

    def test_parts_more_or_fewer(self):
        self.wrong(ROOM[:2])
        self.wrong(ROOM + ((),))
        self.wrong(ROOM[:1])
        self.wrong((8, 6, ((0, 0, 1),)))
        self.wrong((8, 6, ((0, 0, 1, 1, 1),)))
        self.wrong((8, 6, ((),)))

    def test_lists_for_tuples(self):
        self.wrong(list(ROOM))
        self.wrong((8, 6, []))
        self.wrong((8, 6, list(ROOM[2])))
        self.wrong((8, 6, ([0, 0, 1, 1],)))

    def test_true_and_false_are_no_numbers(self):
        self.wrong((True, 1, ()))
        self.wrong((1, True, ()))
        for at in range(4):
            self.wrong((8, 6, (with_part((0, 0, 1, 1), at, at > 1),)))

    def test_odd_things(self):
        for odd in odd_things():
            self.wrong(odd)
            self.wrong(with_part(ROOM, 0, odd))
            self.wrong(with_part(ROOM, 1, odd))
            self.wrong((8, 6, (odd,)))
            if odd != ():
                self.wrong(with_part(ROOM, 2, odd))
            for at in range(4):
                self.wrong((8, 6, (with_part((0, 0, 1, 1), at, odd),)))
            for at in range(3):
                self.wrong((8, 6, with_part(ROOM[2], at, odd)))

    def test_things_of_all_depths(self):
        for depth in range(1, 31):
            for of in (tuple, list):
                for inner in (0, None, "a", True, ROOM):
                    self.wrong(nested(depth, of, inner))


class IsBox(unittest.TestCase):
    def right(self, room, thing):
        self.assertIs(ask_keeping(self, is_box, room, thing), True, thing)

    def wrong(self, room, thing):
        self.assertIs(ask_keeping(self, is_box, room, thing), False, thing)

    def test_all_of_some_numbers(self):
        boxes = set(all_boxes(3, 2))
        for thing in itertools.product(range(-1, 5), repeat=4):
            self.assertIs(is_box((3, 2, ()), thing), thing in boxes, thing)

    def test_walls_do_not_matter(self):
        for box in all_boxes(2, 2):
            self.right((2, 2, ((0, 0, 2, 2),)), box)

    def test_least_and_greatest(self):
        self.right((1, 1, ()), (0, 0, 1, 1))
        room = (GREAT, GREAT, ())
        self.right(room, (0, 0, GREAT, GREAT))
        self.right(room, (GREAT - 1, GREAT - 1, GREAT, GREAT))
        self.wrong(room, (0, 0, GREAT + 1, GREAT))
        self.wrong(room, (0, 0, GREAT, GREAT + 1))
        self.right((10 ** 30, 1, ()), (0, 0, 10 ** 30, 1))

    def test_wide_and_high_are_not_taken_for_each_other(self):
        self.right((2, 5, ()), (0, 0, 2, 5))
        self.wrong((5, 2, ()), (0, 0, 2, 5))

    def test_wrong_kinds_and_counts(self):
        self.wrong(ROOM, [0, 0, 1, 1])
        self.wrong(ROOM, (0, 0, 1))
        self.wrong(ROOM, (0, 0, 1, 1, 1))
        self.wrong(ROOM, (False, 0, 1, 1))
        self.wrong(ROOM, (0, False, 1, 1))
        self.wrong(ROOM, (0, 0, True, 1))
        self.wrong(ROOM, (0, 0, 1, True))
        self.wrong(ROOM, ROOM)

    def test_odd_things(self):
        for odd in odd_things():
            self.wrong(ROOM, odd)
            for at in range(4):
                self.wrong(ROOM, with_part((0, 0, 1, 1), at, odd))

    def test_things_of_all_depths(self):
        for depth in range(1, 31):
            for of in (tuple, list):
                for inner in (0, None, "a", True, (0, 0, 1, 1)):
                    self.wrong(ROOM, nested(depth, of, inner))


class RoomOf(unittest.TestCase):
    def test_no_walls(self):
        self.assertEqual(room_of(1, 1, []), (1, 1, ()))
        self.assertEqual(room_of(GREAT, 3, ()), (GREAT, 3, ()))

    def test_any_order_some_alike(self):
        for walls in itertools.permutations(ROOM[2] + ROOM[2][1:]):
            self.assertEqual(ask_keeping(self, room_of, 8, 6, list(walls)), ROOM)
            self.assertEqual(room_of(8, 6, walls), ROOM)

    def test_rising_by_the_first_unlike_part(self):
        walls = [(10, 0, 10, 0), (9, 0, 9, 0), (2, 10, 3, 10), (2, 9, 4, 9), (2, 9, 3, 11), (2, 9, 3, 10)]
        self.assertEqual(room_of(11, 11, walls)[2], tuple(walls[::-1]))

    def test_thirty_walls(self):
        room = room_of_thirty()
        self.assertEqual(len(room[2]), 30)
        self.assertEqual(room_of(10, 10, list(room[2][::-1]) + list(room[2])), room)

    def test_told_is_a_room(self):
        for room in mixed_rooms():
            told = room_of(room[0], room[1], list(room[2][::-1]))
            self.assertEqual(told, room)
            self.assertIs(is_room(told), True)

    def test_a_later_change_of_the_list_changes_nothing(self):
        walls = [(1, 1, 1, 1)]
        told = room_of(2, 2, walls)
        walls.append((0, 0, 0, 0))
        walls[0] = (2, 2, 2, 2)
        self.assertEqual(told, (2, 2, ((1, 1, 1, 1),)))


class KindOf(unittest.TestCase):
    def test_some(self):
        self.assertEqual(kind_of((3, 4, 3, 4)), "point")
        self.assertEqual(kind_of((0, 0, 0, 0)), "point")
        self.assertEqual(kind_of((3, 3, 3, 3)), "point")
        self.assertEqual(kind_of((3, 4, 3, 5)), "straight")
        self.assertEqual(kind_of((3, 4, 5, 4)), "straight")
        self.assertEqual(kind_of((0, 0, GREAT, 0)), "straight")
        self.assertEqual(kind_of((0, 0, 0, 1)), "straight")
        self.assertEqual(kind_of((3, 4, 4, 5)), "block")
        self.assertEqual(kind_of((0, 0, GREAT, GREAT)), "block")

    def test_all_small_walls(self):
        for wall in all_walls(3, 3):
            lengths = [wall[2] - wall[0], wall[3] - wall[1]]
            self.assertEqual(kind_of(wall), ("block", "straight", "point")[lengths.count(0)])


class WallsIn(unittest.TestCase):
    def agrees(self, room):
        for box in all_boxes(room[0], room[1]):
            inside = numbers_in(room, box)
            told = ask_keeping(self, walls_in, room, box)
            self.assertIs(type(told), list)
            self.assertEqual(told, inside, (room, box))
            self.assertIs(is_free(room, box), not inside)

    def test_each_wall_and_box_of_a_room(self):
        for wall in all_walls(3, 3):
            self.agrees((3, 3, (wall,)))

    def test_small_and_mixed_rooms(self):
        for room in itertools.chain(small_rooms(), mixed_rooms()):
            self.agrees(room)

    def test_thirty_walls(self):
        self.agrees(room_of_thirty())

    def test_what_touches_does_not_lie_in(self):
        box = (2, 2, 5, 4)
        sides = [(0, 2, 2, 4), (2, 2, 2, 4), (5, 2, 5, 4), (5, 0, 7, 6), (0, 0, 7, 2), (2, 4, 5, 4), (3, 4, 3, 4)]
        corners = [(2, 2, 2, 2), (5, 4, 5, 4), (0, 0, 2, 2), (5, 4, 7, 6), (2, 4, 2, 6), (5, 2, 7, 2)]
        for wall in sides + corners:
            room = room_of(7, 6, [wall])
            self.assertEqual(walls_in(room, box), [], wall)
            self.assertIs(is_free(room, box), True)

    def test_what_lies_in(self):
        box = (2, 2, 5, 4)
        for wall in [(3, 3, 3, 3), (4, 0, 4, 6), (0, 3, 7, 3), (2, 3, 3, 3), (0, 0, 3, 3), (0, 0, 7, 6), box]:
            room = room_of(7, 6, [wall])
            self.assertEqual(walls_in(room, box), [0], wall)
            self.assertIs(is_free(room, box), False)

    def test_boxes_at_the_room_s_end(self):
        ends = ((0, 0, 0, 4), (0, 0, 4, 0), (0, 4, 4, 4), (4, 0, 4, 4))
        self.assertEqual(walls_in((4, 4, ends), (0, 0, 4, 4)), [])
        self.assertEqual(walls_in((4, 4, ((0, 0, 4, 4),)), (3, 3, 4, 4)), [0])

    def test_least_and_greatest_rooms(self):
        self.assertEqual(walls_in((1, 1, tuple(all_walls(1, 1))), (0, 0, 1, 1)), [3])
        times = GREAT // 10
        small, great = room_of_thirty(), room_of_thirty(times)
        for box in all_boxes(10, 10)[::7]:
            self.assertEqual(walls_in(great, scaled(box, times)), numbers_in(small, box))
        point = (GREAT - 1, 1, GREAT - 1, 1)
        self.assertIs(is_free((GREAT, GREAT, (point,)), (0, 0, GREAT, GREAT)), False)
        self.assertIs(is_free((GREAT, GREAT, (point,)), (0, 0, GREAT - 1, GREAT)), True)

    def test_the_told_list_is_the_asker_s_own(self):
        room = (2, 2, ((0, 0, 1, 1), (1, 1, 1, 1)))
        for box, right in (((0, 0, 2, 2), [0, 1]), ((1, 1, 2, 2), [])):
            told = walls_in(room, box)
            self.assertIsNot(told, walls_in(room, box))
            told.append(7)
            told.reverse()
            self.assertEqual(walls_in(room, box), right)
            self.assertIs(is_free(room, box), right == [])


class TwoBoxes(unittest.TestCase):
    def test_areas(self):
        self.assertEqual(area_of((0, 0, 1, 1)), 1)
        self.assertEqual(area_of((2, 3, 7, 5)), 10)
        self.assertEqual(area_of((0, 0, GREAT, GREAT)), GREAT * GREAT)
        for box in all_boxes(4, 3):
            self.assertEqual(area_of(box), len(cells(box)))

    def test_all_pairs_of_small_boxes(self):
        boxes = all_boxes(4, 3)
        for one, other in itertools.product(boxes, repeat=2):
            common = cells(one) & cells(other)
            self.assertIs(lies_in(one, other), cells(one) <= cells(other), (one, other))
            both = in_both(one, other)
            if not common:
                self.assertIsNone(both, (one, other))
            else:
                self.assertIn(both, boxes)
                self.assertEqual(cells(both), common, (one, other))

    def test_lies_in_at_the_edges(self):
        self.assertIs(lies_in((0, 0, 1, 1), (0, 0, 1, 1)), True)
        self.assertIs(lies_in((0, 0, GREAT, GREAT), (0, 0, GREAT, GREAT - 1)), False)
        self.assertIs(lies_in((1, 1, 2, 2), (0, 0, GREAT, GREAT)), True)

    def test_nothing_in_common(self):
        self.assertIsNone(in_both((0, 0, 2, 2), (3, 0, 5, 2)))
        self.assertIsNone(in_both((0, 0, 2, 2), (2, 0, 4, 2)))
        self.assertIsNone(in_both((0, 0, 2, 2), (0, 2, 2, 4)))
        self.assertIsNone(in_both((0, 0, 2, 2), (2, 2, 4, 4)))

    def test_in_common(self):
        self.assertEqual(in_both((0, 1, 4, 3), (2, 0, 6, 2)), (2, 1, 4, 2))
        told = in_both((0, 0, GREAT, 1), (GREAT - 1, 0, GREAT, GREAT))
        self.assertEqual(told, (GREAT - 1, 0, GREAT, 1))
        self.assertIs(type(told), tuple)


if __name__ == "__main__":
    unittest.main()
