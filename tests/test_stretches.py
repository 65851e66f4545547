"""Asks of stretches: DOC.md [1], [2] and [14]."""

import itertools
import random
import unittest

from emptybox.rooms import is_free, room_of
from emptybox.stretches import Stretches, column_stretches, rise_over, row_stretches
from emptybox.windows import greatest_in
from tests.helper import (
    FILLED, GREAT, GREAT_FILLED, area_by_cells, ask_keeping, first_of_the_greatest, free_boxes, great_rooms, is_within,
    mixed_rooms, rising_row, room_of_forty, room_of_thirty, small_rooms, some_rooms, tells_own_lists,
    wide_by_splitting)


def turned(room):
    """The room with across and up exchanged."""
    return room_of(room[1], room[0], [(b, a, d, c) for a, b, c, d in room[2]])


def pairs_by_boxes(boxes, low, high):
    """The pairs of those boxes that no other one of them holds, low and high the places of the two numbers."""
    pairs = [(box[low], box[high]) for box in boxes]
    return sorted(one for one in pairs
                  if not any(one != other and other[0] <= one[0] and one[1] <= other[1] for other in pairs))


def row_by_pieces(room, y):
    """The stretches of a row, however wide: pieces from wall's end to wall's end, joined where nothing is between."""
    ends = sorted({0, room[0]} | {x for a, b, c, d in room[2] for x in (a, c)})
    pieces = []
    for left, right in zip(ends, ends[1:]):
        if pieces and pieces[-1][1] == left and is_free(room, (pieces[-1][0], y, right, y + 1)):
            pieces[-1] = (pieces[-1][0], right)
        elif is_free(room, (left, y, right, y + 1)):
            pieces.append((left, right))
    return pieces


def great_places(room):
    """Places in a great room at which something may change, and beside them."""
    ends = {part for wall in room[2] for part in wall} | {0, GREAT - 1, GREAT // 2}
    return sorted(place for end in ends for place in (end - 1, end) if 0 <= place < GREAT)


class Rows(unittest.TestCase):
    def agrees(self, ask, room, at, pairs):
        told = ask_keeping(self, ask, room, at)
        self.assertIs(type(told), list)
        self.assertEqual(told, pairs, (room, at))
        for pair in told:
            self.assertEqual([type(pair), len(pair)], [tuple, 2])

    def test_rows_as_all_boxes_of_a_cell_s_height(self):
        for room in some_rooms():
            boxes = free_boxes(room)
            for y in range(room[1]):
                flat = [box for box in boxes if (box[1], box[3]) == (y, y + 1)]
                self.agrees(row_stretches, room, y, pairs_by_boxes(flat, 0, 2))

    def test_columns_as_all_boxes_of_a_cell_s_width(self):
        for room in some_rooms():
            boxes = free_boxes(room)
            for x in range(room[0]):
                thin = [box for box in boxes if (box[0], box[2]) == (x, x + 1)]
                self.agrees(column_stretches, room, x, pairs_by_boxes(thin, 1, 3))

    def test_many_walls(self):
        for room in mixed_rooms(40, 16):
            for y in range(room[1]):
                self.agrees(row_stretches, room, y, row_by_pieces(room, y))
            for x in range(room[0]):
                self.agrees(column_stretches, room, x, row_by_pieces(turned(room), x))

    def test_no_walls(self):
        self.agrees(row_stretches, (1, 1, ()), 0, [(0, 1)])
        self.agrees(row_stretches, (7, 3, ()), 2, [(0, 7)])
        self.agrees(column_stretches, (7, 3, ()), 6, [(0, 3)])
        self.agrees(row_stretches, (GREAT, GREAT, ()), GREAT - 1, [(0, GREAT)])
        self.agrees(column_stretches, (GREAT, GREAT, ()), GREAT - 1, [(0, GREAT)])

    def test_filled_rooms(self):
        for room in (*FILLED, GREAT_FILLED):
            for at in (0, room[0] - 1):
                self.agrees(column_stretches, room, at, [])
            for at in (0, room[1] - 1):
                self.agrees(row_stretches, room, at, [])

    def test_walls_that_only_touch_the_row(self):
        room = (9, 9, ((0, 3, 0, 6), (2, 4, 5, 4), (3, 5, 3, 8), (4, 0, 4, 4), (7, 5, 7, 5), (9, 0, 9, 9)))
        self.agrees(row_stretches, room, 4, [(0, 9)])
        self.agrees(column_stretches, turned(room), 4, [(0, 9)])

    def test_each_kind_of_wall(self):
        room = (9, 3, ((1, 0, 1, 3), (3, 1, 3, 2), (4, 1, 6, 2), (7, 0, 8, 2)))
        self.agrees(row_stretches, room, 1, [(0, 1), (1, 3), (3, 4), (6, 7), (8, 9)])
        self.agrees(row_stretches, room, 0, [(0, 1), (1, 7), (8, 9)])
        self.agrees(row_stretches, room, 2, [(0, 1), (1, 9)])
        self.agrees(column_stretches, turned(room), 1, [(0, 1), (1, 3), (3, 4), (6, 7), (8, 9)])
        self.agrees(column_stretches, room, 4, [(0, 1), (2, 3)])

    def test_points_and_flat_walls_do_not_part_a_row(self):
        room = (5, 5, ((1, 2, 4, 2), (2, 3, 2, 3)))
        for y in range(5):
            self.agrees(row_stretches, room, y, [(0, 5)])

    def test_great_rooms(self):
        for room in itertools.chain(great_rooms(3), [room_of_thirty(GREAT // 10)]):
            for at in great_places(room):
                self.agrees(row_stretches, room, at, row_by_pieces(room, at))
                self.agrees(column_stretches, room, at, row_by_pieces(turned(room), at))


class RiseOver(unittest.TestCase):
    def agrees(self, room, left, right, low, top):
        told = ask_keeping(self, rise_over, room, left, right, low)
        self.assertIs(type(told), type(top))
        self.assertEqual(told, top, (room, left, right, low))

    def test_as_all_free_boxes(self):
        for room in itertools.chain(small_rooms(), mixed_rooms(40)):
            tops = {}
            for left, low, right, top in free_boxes(room):
                tops[left, right, low] = top
            for left, right in itertools.combinations(range(room[0] + 1), 2):
                for low in range(room[1]):
                    self.agrees(room, left, right, low, tops.get((left, right, low)))

    def test_with_a_free_box(self):
        room = (9, 9, ((2, 5, 2, 5), (4, 7, 6, 8)))
        self.agrees(room, 0, 2, 0, 9)
        self.agrees(room, 0, 3, 0, 5)
        self.agrees(room, 0, 3, 5, 9)
        self.agrees(room, 0, 9, 5, 7)
        self.agrees(room, 0, 9, 8, 9)
        self.agrees((GREAT, GREAT, ()), 0, GREAT, GREAT - 1, GREAT)
        self.agrees((GREAT, GREAT, ((7, GREAT - 1, 7, GREAT - 1),)), 0, GREAT, 0, GREAT - 1)

    def test_without_one(self):
        room = (9, 9, ((4, 4, 6, 8), (8, 2, 8, 3)))
        for low in (4, 5, 7):
            self.agrees(room, 0, 9, low, None)
        self.agrees(room, 0, 9, 2, None)
        self.agrees(room, 0, 9, 3, 4)
        self.agrees(room, 0, 9, 8, 9)
        self.agrees((1, 1, ((0, 0, 1, 1),)), 0, 1, 0, None)
        self.agrees(GREAT_FILLED, 5, 7, GREAT - 1, None)

    def test_walls_that_only_touch(self):
        room = (9, 9, ((0, 0, 3, 9), (3, 2, 6, 2), (4, 9, 5, 9), (6, 1, 6, 8)))
        self.agrees(room, 3, 6, 2, 9)

    def test_great_rooms(self):
        for room in great_rooms(3):
            for left, right in ((0, GREAT), (GREAT // 3, GREAT // 2), (GREAT // 2, GREAT // 2 + 1)):
                for low in great_places(room)[::3]:
                    tops = [box[3] for box in wide_by_splitting(room, (left, low, right, GREAT))
                            if box[:3] == (left, low, right)]
                    self.agrees(room, left, right, low, tops[0] if tops else None)


class Greatest(unittest.TestCase):
    def agrees(self, told, answer, about):
        self.assertEqual([type(told), type(told[0])], [tuple, int])
        self.assertEqual(told, answer, about)

    def test_as_all_free_boxes_of_the_window(self):
        for room in itertools.chain(itertools.islice(small_rooms(), 0, None, 3), mixed_rooms(40)):
            kept = Stretches(room)
            boxes = free_boxes(room)
            for left, right in itertools.combinations(range(room[0] + 1), 2):
                window = (left, 0, right, room[1])
                inside = [box for box in boxes if is_within(box, window)]
                self.agrees(kept.greatest_over(left, right), first_of_the_greatest(inside), (room, window))
            for low, top in itertools.combinations(range(room[1] + 1), 2):
                window = (0, low, room[0], top)
                inside = [box for box in boxes if is_within(box, window)]
                self.agrees(kept.greatest_up(low, top), first_of_the_greatest(inside), (room, window))

    def test_as_greatest_in(self):
        for room in (*great_rooms(), room_of_thirty(GREAT // 10), rising_row(30, GREAT // 31), GREAT_FILLED):
            kept = Stretches(room)
            places = [0, 1, GREAT // 40, GREAT // 3, GREAT // 2, GREAT // 2 + 1, room[0] - 1, room[0]]
            for low, high in itertools.combinations(sorted(set(places)), 2):
                self.agrees(kept.greatest_over(low, high), greatest_in(room, (low, 0, high, room[1])), (low, high))
                self.agrees(kept.greatest_up(low, high), greatest_in(room, (0, low, room[0], high)), (low, high))

    def test_great_rooms_by_splitting(self):
        for room in great_rooms(3):
            kept = Stretches(room)
            for low, high in ((0, GREAT), (GREAT // 3, GREAT // 2), (7, GREAT - 7)):
                over = wide_by_splitting(room, (low, 0, high, GREAT))
                up = wide_by_splitting(room, (0, low, GREAT, high))
                self.agrees(kept.greatest_over(low, high), first_of_the_greatest(over), room)
                self.agrees(kept.greatest_up(low, high), first_of_the_greatest(up), room)

    def test_the_first_of_several(self):
        kept = Stretches((6, 6, ((3, 3, 3, 3),)))
        self.agrees(kept.greatest_over(1, 5), (12, (1, 0, 3, 6)), "over")
        self.agrees(kept.greatest_up(1, 5), (12, (0, 1, 3, 5)), "up")
        kept = Stretches((8, 6, ((0, 3, 8, 3), (4, 0, 4, 6))))
        self.agrees(kept.greatest_over(2, 6), (6, (2, 0, 4, 3)), "over")
        self.agrees(kept.greatest_over(3, 8), (12, (4, 0, 8, 3)), "over")
        self.agrees(kept.greatest_up(1, 5), (8, (0, 1, 4, 3)), "up")

    def test_none(self):
        for room in (*FILLED, GREAT_FILLED):
            kept = Stretches(room)
            self.agrees(kept.greatest_over(0, 1), (0, None), room)
            self.agrees(kept.greatest_over(0, room[0]), (0, None), room)
            self.agrees(kept.greatest_up(0, room[1]), (0, None), room)
        kept = Stretches((6, 6, ((2, 0, 4, 6),)))
        self.agrees(kept.greatest_over(2, 4), (0, None), "over")
        self.agrees(kept.greatest_over(2, 5), (6, (4, 0, 5, 6)), "over")
        kept = Stretches((6, 6, ((0, 2, 6, 4),)))
        self.agrees(kept.greatest_up(3, 4), (0, None), "up")
        self.agrees(kept.greatest_up(1, 4), (6, (0, 1, 6, 2)), "up")

    def test_again_and_in_any_order(self):
        source = random.Random(14)
        room = room_of_forty()
        kept = Stretches(room)
        asks = [(which, *pair) for which in ("over", "up") for pair in itertools.combinations(range(0, 41, 5), 2)]
        right = {(which, low, high): greatest_in(
            room, (low, 0, high, 40) if which == "over" else (0, low, 40, high)) for which, low, high in asks}
        for _ in range(4):
            source.shuffle(asks)
            for which, low, high in asks:
                told = kept.greatest_over(low, high) if which == "over" else kept.greatest_up(low, high)
                self.agrees(told, right[which, low, high], (which, low, high))
                if source.randint(0, 9) == 0:
                    kept.profile()

    def test_two_rooms_by_turns(self):
        rooms = (room_of_forty(), (6, 6, ((3, 3, 3, 3),)))
        kept = [Stretches(room) for room in rooms]
        for left in range(5):
            for room, one in zip(rooms, kept):
                self.agrees(one.greatest_over(left, 6), greatest_in(room, (left, 0, 6, room[1])), room)


class Profile(unittest.TestCase):
    def agrees(self, room, areas):
        told = Stretches(room).profile()
        self.assertIs(type(told), list)
        self.assertEqual(told, areas, room)

    def test_as_all_free_boxes(self):
        for room in some_rooms():
            boxes = free_boxes(room)
            self.agrees(room, [max([area_by_cells(box) for box in boxes if box[0] <= x and x + 1 <= box[2]], default=0)
                               for x in range(room[0])])

    def test_empty_and_filled_rooms(self):
        self.agrees((1, 1, ()), [1])
        self.agrees((40, 3, ()), [120] * 40)
        for room in FILLED:
            self.agrees(room, [0] * room[0])

    def test_single_columns(self):
        self.agrees((5, 4, ((1, 0, 2, 4), (3, 0, 3, 4))), [4, 0, 4, 8, 8])
        self.agrees((5, 4, ((1, 1, 2, 4),)), [5, 5, 12, 12, 12])

    def test_a_high_room(self):
        room = (2, GREAT, ((0, 5, 1, GREAT),))
        self.agrees(room, [10, GREAT])

    def test_forty_wide(self):
        for room in (room_of_forty(), room_of_thirty(4)):
            boxes = wide_by_splitting(room)
            self.agrees(room, [max((right - left) * (top - low) for left, low, right, top in boxes if left <= x < right)
                               for x in range(40)])


class Own(unittest.TestCase):
    def test_told_lists_are_the_asker_s_own(self):
        for room in itertools.chain(mixed_rooms(20), FILLED, [room_of_forty()]):
            tells_own_lists(self, row_stretches, room, 0)
            tells_own_lists(self, column_stretches, room, room[0] - 1)
            tells_own_lists(self, Stretches(room).profile)

    def test_a_changed_profile_changes_no_other_answer(self):
        kept = Stretches(room_of_forty())
        before = (kept.greatest_over(3, 30), kept.greatest_up(5, 20), kept.profile())
        kept.profile().clear()
        self.assertEqual((kept.greatest_over(3, 30), kept.greatest_up(5, 20), kept.profile()), before)

    def test_the_room_is_not_changed(self):
        for room in mixed_rooms(20):
            def asked(same):
                kept = Stretches(same)
                return (kept.greatest_over(0, 1), kept.greatest_up(0, 1), kept.profile())
            ask_keeping(self, asked, room)

    def test_methods_stand_in_the_class(self):
        for name in ("greatest_over", "greatest_up", "profile"):
            self.assertIn(name, vars(Stretches))


if __name__ == "__main__":
    unittest.main()
