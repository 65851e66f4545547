"""Wide boxes by kinds: DOC.md [1], [2] and [7]."""

import itertools
import unittest

from emptybox.kinds import by_kinds, free_sides, kinds_of
from tests.helper import (
    GREAT, ask_keeping, bounds_by_steps, great_rooms, mixed_rooms, room_of_thirty, scaled, some_rooms,
    tells_own_lists, wide_by_splitting, wide_by_steps)

# Each side of the box in the middle has another kind of bound; the box alone is free at all sides.
ROOM = (9, 9, ((0, 4, 2, 5), (3, 1, 6, 1), (4, 8, 4, 8), (7, 3, 7, 4)))
BOX = (2, 1, 7, 8)


def kind_by_lengths(wall):
    lengths = (wall[2] - wall[0], wall[3] - wall[1])
    return ("block", "straight", "point")[lengths.count(0)]


def words_by_steps(room, box):
    """The words for all sides, by moving each out by one."""
    words = []
    for side in bounds_by_steps(room, box):
        kinds = [kind_by_lengths(room[2][number]) for number in side if number >= 0]
        words.append("room" if -1 in side else min(kinds, key=("block", "straight", "point").index))
    return tuple(words)


class KindsOf(unittest.TestCase):
    def agrees(self, room, box, words):
        told = ask_keeping(self, kinds_of, room, box)
        self.assertIs(type(told), tuple)
        self.assertEqual(told, words, (room, box))

    def test_as_step_by_step(self):
        for room in some_rooms():
            for box in wide_by_steps(room):
                self.agrees(room, box, words_by_steps(room, box))

    def test_each_kind(self):
        self.agrees(ROOM, BOX, ("block", "straight", "straight", "point"))
        self.agrees((4, 4, ((2, 2, 2, 2),)), (0, 0, 2, 4), ("room", "room", "point", "room"))
        self.agrees((4, 4, ((2, 2, 2, 2),)), (2, 0, 4, 4), ("point", "room", "room", "room"))
        self.agrees((4, 4, ((1, 2, 3, 2),)), (0, 2, 4, 4), ("room", "straight", "room", "room"))
        self.agrees((4, 4, ((1, 1, 3, 3),)), (0, 0, 4, 1), ("room", "room", "room", "block"))

    def test_no_walls(self):
        self.agrees((1, 1, ()), (0, 0, 1, 1), ("room",) * 4)
        self.agrees((GREAT, GREAT, ()), (0, 0, GREAT, GREAT), ("room",) * 4)

    def test_the_room_s_end_goes_ahead_of_walls_there(self):
        ends = ((0, 0, 0, 4), (0, 0, 4, 0), (0, 2, 0, 2), (0, 4, 4, 4), (4, 1, 4, 1), (4, 2, 4, 4))
        self.agrees((4, 4, ends), (0, 0, 4, 4), ("room",) * 4)

    def test_several_kinds_at_one_side(self):
        point, straight, block = (3, 1, 3, 1), (3, 2, 3, 3), (3, 4, 5, 5)
        for walls, word in (((point,), "point"), ((straight,), "straight"), ((block,), "block"),
                            ((point, straight), "straight"), ((point, block), "block"),
                            ((straight, block), "block"), ((point, straight, block), "block")):
            self.agrees((6, 6, walls), (0, 0, 3, 6), ("room", "room", word, "room"))
            turned = tuple(sorted((b, a, d, c) for a, b, c, d in walls))
            self.agrees((6, 6, turned), (0, 0, 6, 3), ("room", "room", "room", word))
            mirrored = tuple(sorted((6 - c, b, 6 - a, d) for a, b, c, d in walls))
            self.agrees((6, 6, mirrored), (3, 0, 6, 6), (word, "room", "room", "room"))
            both = tuple(sorted((b, a, d, c) for a, b, c, d in mirrored))
            self.agrees((6, 6, both), (0, 3, 6, 6), ("room", word, "room", "room"))

    def test_a_straight_wall_by_its_end(self):
        self.agrees((6, 6, ((3, 3, 6, 3),)), (0, 0, 3, 6), ("room", "room", "straight", "room"))

    def test_great_rooms(self):
        times = GREAT // 10
        small, great = room_of_thirty(), room_of_thirty(times)
        for box in wide_by_steps(small):
            self.agrees(great, scaled(box, times), words_by_steps(small, box))


class ByKinds(unittest.TestCase):
    def test_as_step_by_step(self):
        for room in some_rooms():
            words = [words_by_steps(room, box) for box in wide_by_steps(room)]
            right = [(one, words.count(one)) for one in sorted(set(words))]
            told = ask_keeping(self, by_kinds, room)
            self.assertEqual(told, right, room)
            self.assertIs(type(told), list)

    def test_counts_are_together_all_wide_boxes(self):
        for room in itertools.chain(mixed_rooms(), great_rooms(), [room_of_thirty(GREAT // 10)]):
            boxes = wide_by_splitting(room)
            told = by_kinds(room)
            self.assertEqual(sum(many for words, many in told), len(boxes))
            all_words = [kinds_of(room, box) for box in boxes]
            self.assertEqual(told, [(words, all_words.count(words)) for words in sorted(set(all_words))])

    def test_told_are_pairs_of_words_and_a_number(self):
        for pair in by_kinds(ROOM):
            self.assertEqual([type(pair), len(pair), type(pair[0]), type(pair[1])], [tuple, 2, tuple, int])
            self.assertEqual([type(word) for word in pair[0]], [str] * 4)

    def test_some(self):
        self.assertEqual(by_kinds((3, 3, ())), [(("room",) * 4, 1)])
        self.assertEqual(by_kinds((3, 3, ((0, 0, 3, 3),))), [])
        self.assertEqual(by_kinds((4, 4, ((2, 2, 2, 2),))), [
            (("point", "room", "room", "room"), 1), (("room", "point", "room", "room"), 1),
            (("room", "room", "point", "room"), 1), (("room", "room", "room", "point"), 1)])

    def test_several_alike(self):
        columns = tuple((k, 0, k, 5) for k in range(1, 5))
        self.assertEqual(by_kinds((5, 5, columns)), [
            (("room", "room", "straight", "room"), 1), (("straight", "room", "room", "room"), 1),
            (("straight", "room", "straight", "room"), 3)])

    def test_rising_by_words(self):
        walls = ((0, 2, 1, 3), (2, 2, 2, 2), (4, 0, 4, 5))
        words = [words for words, many in by_kinds((6, 5, walls))]
        self.assertEqual(words, sorted(words))
        self.assertEqual({word for one in words for word in one}, {"block", "point", "room", "straight"})


class FreeSides(unittest.TestCase):
    def agrees(self, room, boxes):
        told = ask_keeping(self, free_sides, room)
        self.assertIs(type(told), list)
        self.assertEqual(told, boxes, room)

    def test_as_step_by_step(self):
        for room in itertools.chain(some_rooms(), mixed_rooms(80, 16)):
            self.agrees(room, [box for box in wide_by_steps(room) if "room" not in words_by_steps(room, box)])

    def test_one_in_the_middle(self):
        self.agrees(ROOM, [BOX])

    def test_none(self):
        self.agrees((3, 3, ()), [])
        self.agrees((3, 3, ((0, 0, 3, 3),)), [])
        self.agrees((3, 3, ((1, 1, 1, 1),)), [])

    def test_one_side_at_the_end(self):
        for left, low, right, top in ((1, 1, 5, 5), (0, 1, 5, 5), (1, 0, 5, 5), (1, 1, 6, 5), (1, 1, 5, 6)):
            walls = {(left, low, right, low), (left, low, left, top), (right, low, right, top), (left, top, right, top)}
            inner = [(left, low, right, top)] if (left, low, right, top) == (1, 1, 5, 5) else []
            self.agrees((6, 6, tuple(sorted(walls))), inner)

    def test_great_rooms(self):
        for wide, high, walls in great_rooms():
            self.agrees((wide, high, walls), [
                (left, low, right, top) for left, low, right, top in wide_by_splitting((wide, high, walls))
                if left > 0 and low > 0 and right < wide and top < high])


class Own(unittest.TestCase):
    def test_told_lists_are_the_asker_s_own(self):
        for room in itertools.chain(mixed_rooms(20), [ROOM, (3, 3, ()), (1, 1, ((0, 0, 1, 1),))]):
            tells_own_lists(self, by_kinds, room)
            tells_own_lists(self, free_sides, room)

    def test_one_room_does_not_change_another(self):
        rooms = list(mixed_rooms())
        before = [(by_kinds(room), free_sides(room)) for room in rooms]
        after = [(by_kinds(room), free_sides(room)) for room in rooms[::-1]]
        self.assertEqual(before, after[::-1])


if __name__ == "__main__":
    unittest.main()
