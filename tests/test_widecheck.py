"""The checker of wide boxes: DOC.md [1], [2] and [5]."""

import itertools
import unittest

from emptybox.boxes import wide_boxes
from emptybox.widecheck import shows_wide
from emptybox.widening import bounds_of
from tests.helper import (
    GREAT, all_boxes, ask_keeping, bounds_by_steps, free_boxes, great_rooms, mixed_rooms, nested, numbers_in,
    odd_things, room_of_thirty, scaled, some_rooms, wide_by_steps, with_part)

# Points bound all sides of the box in the middle, each just one side.
ROOM = (7, 7, ((1, 4, 1, 4), (3, 1, 3, 1), (4, 6, 4, 6), (6, 3, 6, 3)))
BOX = (1, 1, 6, 6)
SHOWN = (0, 1, 3, 2)


def papers_of(bounds, most=40):
    """Tuples of one of each side's bounds, in which each bound stands at least once."""
    told = list(itertools.islice(itertools.product(*bounds), most))
    first = tuple(side[0] for side in bounds)
    return told + [with_part(first, side, number) for side in range(4) for number in bounds[side]]


class Checker(unittest.TestCase):
    def right(self, room, box, thing):
        self.assertIs(ask_keeping(self, shows_wide, room, box, thing), True, (room, box, thing))

    def wrong(self, room, box, thing):
        self.assertIs(ask_keeping(self, shows_wide, room, box, thing), False, (room, box, thing))


class Shown(Checker):
    def test_the_box_in_the_middle(self):
        self.assertEqual(bounds_of(ROOM, BOX), [[0], [1], [3], [2]])
        self.right(ROOM, BOX, SHOWN)

    def test_each_number_that_bounds_a_side(self):
        for room in some_rooms():
            for box in wide_by_steps(room):
                for paper in papers_of(bounds_by_steps(room, box)):
                    self.right(room, box, paper)

    def test_what_bounds_of_tells(self):
        for room in list(mixed_rooms()) + list(great_rooms(2)):
            for box in wide_boxes(room):
                for paper in papers_of(bounds_of(room, box), 3):
                    self.right(room, box, paper)

    def test_no_walls(self):
        self.right((1, 1, ()), (0, 0, 1, 1), (-1, -1, -1, -1))
        self.right((GREAT, GREAT, ()), (0, 0, GREAT, GREAT), (-1, -1, -1, -1))

    def test_walls_at_the_room_s_end(self):
        walls = ((0, 0, 0, 4), (0, 0, 4, 0), (0, 2, 0, 2), (0, 4, 4, 4), (4, 0, 4, 0), (4, 1, 4, 3))
        for paper in itertools.product(range(-2, 7), repeat=4):
            bounds = ((-1, 0, 2), (-1, 1), (-1, 5), (-1, 3))
            right = all(number in side for number, side in zip(paper, bounds))
            self.assertIs(shows_wide((4, 4, walls), (0, 0, 4, 4), paper), right, paper)

    def test_thirty_walls_in_a_great_room(self):
        times = GREAT // 10
        small, great = room_of_thirty(), room_of_thirty(times)
        for box in wide_by_steps(small):
            for paper in papers_of(bounds_by_steps(small, box)):
                self.right(great, scaled(box, times), paper)


class NotShown(Checker):
    def test_another_number_at_one_side(self):
        for room in mixed_rooms():
            for box in wide_by_steps(room):
                bounds = bounds_by_steps(room, box)
                paper = tuple(side[0] for side in bounds)
                for side in range(4):
                    for number in range(-3, len(room[2]) + 3):
                        told = shows_wide(room, box, with_part(paper, side, number))
                        self.assertIs(told, number in bounds[side], (room, box, side, number))

    def test_the_room_s_end_for_a_wall(self):
        for side in range(4):
            self.wrong(ROOM, BOX, with_part(SHOWN, side, -1))

    def test_a_wall_for_the_room_s_end(self):
        for side in range(4):
            self.wrong((2, 2, ((0, 0, 0, 0),)), (0, 0, 2, 2), with_part((-1, -1, -1, -1), side, 0))

    def test_two_exchanged(self):
        for one, other in itertools.combinations(range(4), 2):
            paper = with_part(with_part(SHOWN, one, SHOWN[other]), other, SHOWN[one])
            self.wrong(ROOM, BOX, paper)

    def test_all_orders_but_one(self):
        for paper in itertools.permutations(range(4)):
            self.assertIs(shows_wide(ROOM, BOX, paper), paper == SHOWN)

    def test_far_numbers(self):
        for far in (4, 7, 30, GREAT, 10 ** 60, -2, -GREAT, -10 ** 60):
            for side in range(4):
                self.wrong(ROOM, BOX, with_part(SHOWN, side, far))

    def test_counting_from_the_end_shows_nothing(self):
        self.wrong(ROOM, BOX, tuple(number - 4 for number in SHOWN))

    def test_a_box_that_is_not_free(self):
        for room in mixed_rooms(30):
            for box in all_boxes(room[0], room[1]):
                if numbers_in(room, box):
                    for paper in ((-1, -1, -1, -1), (0, 0, 0, 0), tuple(numbers_in(room, box) * 4)[:4]):
                        self.wrong(room, box, paper)

    def test_a_box_that_is_not_free_though_each_side_has_a_bound(self):
        room = (7, 7, ROOM[2][:2] + ((3, 3, 3, 3),) + ROOM[2][2:])
        self.wrong(room, BOX, (0, 1, 4, 3))
        self.wrong((2, 2, ((1, 1, 1, 1),)), (0, 0, 2, 2), (-1, -1, -1, -1))

    def test_a_box_that_is_not_wide(self):
        room = (2, 2, ((1, 0, 1, 2),))
        for box in free_boxes(room):
            told = [paper for paper in itertools.product(range(-1, 1), repeat=4) if shows_wide(room, box, paper)]
            self.assertEqual(told, list(itertools.product(*bounds_by_steps(room, box))))
            self.assertEqual(bool(told), box in wide_by_steps(room))

    def test_one_side_that_can_be_moved(self):
        for box in ((2, 1, 6, 6), (1, 2, 6, 6), (1, 1, 5, 6), (1, 1, 6, 5)):
            self.wrong(ROOM, box, SHOWN)


class AnyThings(Checker):
    def test_odd_papers(self):
        for odd in odd_things() + [0, -1, GREAT]:
            self.wrong(ROOM, BOX, odd)
            for at in range(4):
                if odd != SHOWN[at] or isinstance(odd, bool):
                    self.wrong(ROOM, BOX, with_part(SHOWN, at, odd))

    def test_odd_boxes(self):
        for odd in odd_things() + [0, -1, GREAT]:
            self.wrong(ROOM, odd, SHOWN)
            for at in range(4):
                if odd != BOX[at] or isinstance(odd, bool):
                    self.wrong(ROOM, with_part(BOX, at, odd), SHOWN)

    def test_odd_boxes_and_papers(self):
        for box in odd_things():
            for thing in odd_things():
                self.wrong(ROOM, box, thing)

    def test_true_and_false_are_no_numbers(self):
        room = (4, 4, ((0, 2, 0, 2), (2, 0, 2, 0)))
        self.right(room, (0, 0, 4, 4), (0, 1, -1, -1))
        self.wrong(room, (0, 0, 4, 4), (False, 1, -1, -1))
        self.wrong(room, (0, 0, 4, 4), (0, True, -1, -1))
        self.wrong(room, (False, 0, 4, 4), (0, 1, -1, -1))
        self.right((1, 1, ()), (0, 0, 1, 1), (-1,) * 4)
        for at in range(4):
            self.wrong((1, 1, ()), with_part((0, 0, 1, 1), at, at > 1), (-1,) * 4)

    def test_lists_for_tuples(self):
        self.wrong(ROOM, list(BOX), SHOWN)
        self.wrong(ROOM, BOX, list(SHOWN))
        self.wrong(ROOM, BOX, [[number] for number in SHOWN])
        self.wrong(ROOM, BOX, tuple([number] for number in SHOWN))
        self.wrong(ROOM, BOX, bounds_of(ROOM, BOX))

    def test_texts_and_none(self):
        self.wrong(ROOM, BOX, "0132")
        self.wrong(ROOM, "1166", SHOWN)
        self.wrong(ROOM, BOX, tuple("0132"))
        self.wrong(ROOM, tuple("1166"), SHOWN)
        self.wrong(ROOM, BOX, None)
        self.wrong(ROOM, None, SHOWN)

    def test_parts_more_or_fewer(self):
        for paper in ((), SHOWN[:3], SHOWN[1:], SHOWN + (0,), (-1,) + SHOWN, (SHOWN,), SHOWN + SHOWN):
            self.wrong(ROOM, BOX, paper)
        for box in ((), BOX[:3], BOX[1:], BOX + (0,), (0,) + BOX, (BOX,), BOX + BOX):
            self.wrong(ROOM, box, SHOWN)

    def test_boxes_beyond_the_room(self):
        room = (3, 3, ())
        for box in ((-1, 0, 3, 3), (0, -1, 3, 3), (0, 0, 4, 3), (0, 0, 3, 4), (0, 0, 10 ** 60, 3), (3, 3, 0, 0),
                    (0, 0, 0, 3), (0, 0, 3, 0), (3, 0, 0, 3), (-GREAT, -GREAT, GREAT, GREAT)):
            self.wrong(room, box, (-1, -1, -1, -1))

    def test_things_of_all_depths(self):
        for depth in range(1, 31):
            for of in (tuple, list):
                for inner in (0, None, "a", True, SHOWN, BOX):
                    thing = nested(depth, of, inner)
                    self.wrong(ROOM, BOX, thing)
                    self.wrong(ROOM, thing, SHOWN)
                    self.wrong(ROOM, thing, thing)


if __name__ == "__main__":
    unittest.main()
