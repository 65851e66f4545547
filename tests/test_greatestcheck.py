"""The checker of the greatest: DOC.md [1], [2] and [13]."""

import itertools
import random
import unittest

from emptybox.greatest import greatest_paper
from emptybox.greatestcheck import shows_greatest
from tests.helper import (
    FILLED, GREAT, GREAT_FILLED, area_by_cells, ask_keeping, falling_row, four_beside, free_boxes, great_rooms,
    is_beside, mixed_rooms, nested, odd_things, rising_row, room_of_forty, room_of_thirty, small_rooms, tree_holds,
    wide_by_splitting, with_part)

SMALL = ("small",)
# Two points off the middle: no part around the first is as great as another one.
ROOM = (10, 9, ((2, 3, 2, 3), (7, 5, 7, 5)))


def whole_of(room):
    return (0, 0, room[0], room[1])


def size_of(box):
    return (box[2] - box[0]) * (box[3] - box[1])


def walls_of_part(room, part):
    return [number for number, wall in enumerate(room[2]) if not is_beside(part, wall)]


def trees_of(room, part, area):
    """Each tree of a part for an area."""
    if part is None:
        return [None]
    trees = [SMALL] if size_of(part) <= area else []
    for number in walls_of_part(room, part):
        below = [trees_of(room, one, area) for one in four_beside(part, room[2][number])]
        trees += [("wall", number, four) for four in itertools.product(*below)]
    return trees


def tree_by(choose, room, part, area, on=0):
    """A tree of a part, the wall taken by choose; on so many levels it goes on even where the part is small."""
    numbers = walls_of_part(room, part) if part else []
    if part is None or (size_of(part) <= area and (on <= 0 or not numbers)):
        return part and SMALL
    number = choose(numbers)
    parts = four_beside(part, room[2][number])
    return ("wall", number, tuple(tree_by(choose, room, one, area, on - 1) for one in parts))


def middle(numbers):
    return numbers[len(numbers) // 2]


def greatest_area(room):
    return max([size_of(box) for box in wide_by_splitting(room)], default=0)


def paths_in(thing, path=()):
    """The way to each part of a tuple, and to the parts of these."""
    if isinstance(thing, tuple):
        for at, part in enumerate(thing):
            yield (*path, at)
            yield from paths_in(part, (*path, at))


def part_at(thing, path):
    for at in path:
        thing = thing[at]
    return thing


def put(thing, path, part):
    """The thing with a part put in the stead of what stands at the end of the path."""
    if not path:
        return part
    return with_part(thing, path[0], put(thing[path[0]], path[1:], part))


def some_papers():
    """Rooms with good papers of them."""
    for room in itertools.chain(mixed_rooms(24, 6), FILLED[:4], [(3, 2, ())]):
        yield (room, greatest_paper(room))


class Checker(unittest.TestCase):
    def right(self, room, thing):
        self.assertIs(ask_keeping(self, shows_greatest, room, thing), True, (room, thing))

    def wrong(self, room, thing):
        self.assertIs(ask_keeping(self, shows_greatest, room, thing), False, (room, thing))


class Shown(Checker):
    def test_each_tree_of_small_rooms(self):
        for room in small_rooms():
            area = greatest_area(room)
            boxes = [box for box in free_boxes(room) if area_by_cells(box) == area] or [None]
            trees = trees_of(room, whole_of(room), area)
            self.assertTrue(trees)
            for box, tree in itertools.product(boxes, trees):
                self.right(room, (area, box, tree))

    def test_each_tree_of_rooms_with_a_few_walls(self):
        for room in mixed_rooms(40, 3):
            area, box, tree = greatest_paper(room)
            for tree in trees_of(room, whole_of(room), area)[:200]:
                self.right(room, (area, box, tree))

    def test_any_free_box_of_this_area(self):
        room = (4, 4, ((2, 2, 2, 2),))
        tree = ("wall", 0, (SMALL,) * 4)
        for box in ((0, 0, 2, 4), (0, 0, 4, 2), (0, 2, 4, 4), (2, 0, 4, 4)):
            self.right(room, (8, box, tree))

    def test_trees_by_any_choice(self):
        source = random.Random(5)
        for room in mixed_rooms(40, 8):
            area, box, tree = greatest_paper(room)
            for choose in (min, max, middle, source.choice):
                for on in (0, 1, 9):
                    self.right(room, (area, box, tree_by(choose, room, whole_of(room), area, on)))

    def test_a_tree_that_goes_on_where_it_is_small(self):
        room = (4, 4, ((0, 2, 4, 2), (2, 0, 2, 4), (3, 3, 3, 3)))
        area = 4
        tree = tree_by(min, room, whole_of(room), area, 9)
        self.assertIn("wall", tree[2][3][2][2])
        self.right(room, (area, (0, 0, 2, 2), tree))

    def test_empty_and_filled_rooms(self):
        self.right((1, 1, ()), (1, (0, 0, 1, 1), SMALL))
        self.right((GREAT, GREAT, ()), (10 ** 12, (0, 0, GREAT, GREAT), SMALL))
        for room in ((1, 1, ((0, 0, 1, 1),)), GREAT_FILLED):
            self.right(room, (0, None, ("wall", 0, (None,) * 4)))
        for room in FILLED:
            self.right(room, (0, None, tree_by(min, room, whole_of(room), 0)))

    def test_a_part_as_great_as_the_area(self):
        room = (4, 4, ((1, 0, 1, 4),))
        self.right(room, (12, (1, 0, 4, 4), ("wall", 0, (SMALL, None, SMALL, None))))

    def test_more_than_twelve_walls(self):
        for room in (room_of_forty(), room_of_thirty(), room_of_thirty(GREAT // 10), *great_rooms(3),
                     rising_row(13), falling_row(13)):
            self.assertGreater(len(room[2]), 12)
            boxes = wide_by_splitting(room)
            area = greatest_area(room)
            tree = tree_by(middle, room, whole_of(room), area)
            for box in boxes:
                self.assertIs(shows_greatest(room, (area, box, tree)), size_of(box) == area)
            self.wrong(room, (area - 1, boxes[0], tree))

    def test_as_deep_as_there_are_walls(self):
        for many in (30, 200):
            room = (3, many + 1, tuple((0, k, 3, k) for k in range(1, many + 1)))
            tree = SMALL
            for number in reversed(range(many)):
                tree = ("wall", number, (None, SMALL, None, tree))
            self.assertIs(shows_greatest(room, (3, (0, 0, 3, 1), tree)), True)
            self.assertIs(shows_greatest(room, (2, (0, 0, 2, 1), tree)), False)


class Areas(Checker):
    def test_no_tree_for_a_lesser_area(self):
        for room in small_rooms():
            area = greatest_area(room)
            for box in [None] + free_boxes(room):
                lesser = area_by_cells(box) if box else 0
                if lesser < area:
                    self.assertEqual(trees_of(room, whole_of(room), lesser), [])
                    for tree in trees_of(room, whole_of(room), area)[:20]:
                        self.wrong(room, (lesser, box, tree))

    def test_another_area_with_the_same_box_and_tree(self):
        for room, paper in some_papers():
            for far in (-2, -1, 1, 2, 10 ** 60, -10 ** 60):
                self.wrong(room, with_part(paper, 0, paper[0] + far))
            self.wrong(room, with_part(paper, 0, -paper[0] or -1))

    def test_a_greater_area_without_a_box(self):
        for room, paper in some_papers():
            for area in (paper[0] + 1, room[0] * room[1] + 1, GREAT):
                self.wrong(room, (area, None, SMALL))
                self.wrong(room, (area, None, paper[2]))

    def test_a_greater_area_with_a_box_that_is_not_free(self):
        for room, paper in some_papers():
            area = room[0] * room[1]
            if area > paper[0]:
                self.wrong(room, (area, whole_of(room), SMALL))
                self.wrong(room, (area, whole_of(room), paper[2]))

    def test_nought_of_a_room_that_is_not_filled(self):
        self.wrong((1, 1, ()), (0, None, SMALL))
        self.wrong((2, 2, ((1, 1, 1, 1),)), (0, None, ("wall", 0, (SMALL,) * 4)))
        self.wrong((2, 2, ((0, 0, 1, 2),)), (0, None, ("wall", 0, (None, None, SMALL, None))))
        self.wrong((2, 2, ((0, 0, 1, 2),)), (0, None, ("wall", 0, (None,) * 4)))


class Boxes(Checker):
    def test_a_box_that_is_not_free(self):
        tree = tree_by(min, ROOM, whole_of(ROOM), 45)
        self.right(ROOM, (45, (2, 0, 7, 9), tree))
        for box in ((1, 0, 6, 9), (0, 0, 5, 9), (5, 0, 10, 9), (0, 2, 9, 7)):
            self.assertEqual(size_of(box), 45)
            self.wrong(ROOM, (45, box, tree))

    def test_a_free_box_of_another_area(self):
        for room, paper in some_papers():
            for box in free_boxes(room):
                told = shows_greatest(room, with_part(paper, 1, box))
                self.assertIs(told, area_by_cells(box) == paper[0], (room, paper, box))

    def test_none_just_of_nought(self):
        for room, paper in some_papers():
            self.assertIs(shows_greatest(room, with_part(paper, 1, None)), paper[0] == 0)
        filled = (2, 1, ((0, 0, 2, 1),))
        tree = ("wall", 0, (None,) * 4)
        self.right(filled, (0, None, tree))
        for box in ((), (0, 0, 0, 0), (0, 0, 0, 1), (1, 0, 1, 1), (0, 0, 1, 1), 0, False, "", []):
            self.wrong(filled, (0, box, tree))

    def test_boxes_beyond_the_room(self):
        room = (3, 3, ())
        for box in ((-1, 0, 2, 3), (0, -1, 3, 2), (1, 0, 4, 3), (0, 1, 3, 4), (3, 3, 0, 0), (0, 0, 9, 1)):
            self.wrong(room, (9, box, SMALL))
        self.right(room, (9, (0, 0, 3, 3), SMALL))


class Trees(Checker):
    def paper(self, tree, area=45, box=(2, 0, 7, 9)):
        return (area, box, tree)

    def good(self):
        first = ("wall", 0, (SMALL, SMALL, ("wall", 1, (SMALL, SMALL, SMALL, SMALL)),
                             ("wall", 1, (SMALL, SMALL, SMALL, SMALL))))
        self.right(ROOM, self.paper(first))
        return first

    def test_a_tree_left_out(self):
        for at in range(4):
            self.wrong(ROOM, self.paper(put(self.good(), (2, at), None)))
            self.wrong(ROOM, self.paper(put(self.good(), (2, 3, 2, at), None)))
        for room, paper in some_papers():
            for path in paths_in(paper[2]):
                if part_at(paper[2], path) is not None:
                    self.wrong(room, with_part(paper, 2, put(paper[2], path, None)))

    def test_a_tree_where_there_is_nothing(self):
        rooms = 0
        for room, paper in some_papers():
            for path in paths_in(paper[2]):
                if part_at(paper[2], path) is None:
                    rooms += 1
                    for tree in (SMALL, paper[2], ("wall", 0, (None,) * 4), (), 0, False, ""):
                        self.wrong(room, with_part(paper, 2, put(paper[2], path, tree)))
        self.assertGreater(rooms, 10)

    def test_trees_exchanged(self):
        tree = self.good()
        for one, other in itertools.combinations(range(4), 2):
            four = list(tree[2])
            four[one], four[other] = four[other], four[one]
            exchanged = ("wall", 0, tuple(four))
            self.assertIs(shows_greatest(ROOM, self.paper(exchanged)), exchanged == tree)
        room = (4, 4, ((1, 0, 1, 4),))
        for four in ((None, SMALL, SMALL, None), (SMALL, None, None, SMALL), (None, SMALL, None, SMALL)):
            self.wrong(room, (12, (1, 0, 4, 4), ("wall", 0, four)))

    def test_trees_exchanged_anywhere(self):
        for room, paper in some_papers():
            paths = [path for path in paths_in(paper[2]) if isinstance(part_at(paper[2], path), tuple)
                     and part_at(paper[2], path)[0] in ("small", "wall")]
            for one, other in itertools.combinations(paths[:12], 2):
                tree = put(paper[2], one, part_at(paper[2], other))
                holds = tree_holds(room, whole_of(room), paper[0], tree)
                self.assertIs(shows_greatest(room, with_part(paper, 2, tree)), holds, (room, tree))

    def test_other_numbers(self):
        for room, paper in some_papers():
            for path in paths_in(paper[2]):
                if isinstance(part_at(paper[2], path), int):
                    for number in (-9, -2, -1, *range(len(room[2]) + 3), GREAT, 10 ** 60):
                        tree = put(paper[2], path, number)
                        holds = tree_holds(room, whole_of(room), paper[0], tree)
                        self.assertIs(shows_greatest(room, with_part(paper, 2, tree)), holds, (room, tree))

    def test_a_number_of_no_wall(self):
        for number in (2, 3, 30, GREAT, -1, -2, -3):
            self.wrong(ROOM, self.paper(put(self.good(), (1,), number)))
            self.wrong(ROOM, self.paper(put(self.good(), (2, 2, 1), number)))
        self.wrong((1, 1, ()), (1, (0, 0, 1, 1), ("wall", 0, (SMALL,) * 4)))
        self.wrong((1, 1, ()), (1, (0, 0, 1, 1), ("wall", 0, (None,) * 4)))

    def test_a_wall_that_does_not_lie_in_the_part(self):
        tree = self.good()
        self.wrong(ROOM, self.paper(put(tree, (2, 2, 1), 0)))
        self.wrong(ROOM, self.paper(put(tree, (2, 0), ("wall", 1, (SMALL,) * 4))))
        self.wrong(ROOM, self.paper(put(tree, (2, 0), ("wall", 1, (SMALL, SMALL, None, None)))))
        # Walls that only touch the part's side or corner.
        ends = (4, 4, ((0, 2, 0, 2), (4, 4, 4, 4)))
        self.right(ends, (16, (0, 0, 4, 4), SMALL))
        for four in ((None, None, SMALL, None), (None, SMALL, SMALL, SMALL), (SMALL,) * 4, (None,) * 4):
            self.wrong(ends, (16, (0, 0, 4, 4), ("wall", 0, four)))
        for four in ((SMALL, None, None, None), (SMALL, SMALL, None, None), (None,) * 4):
            self.wrong(ends, (16, (0, 0, 4, 4), ("wall", 1, four)))

    def test_small_of_a_part_that_is_too_great(self):
        tree = self.good()
        self.wrong(ROOM, self.paper(SMALL))
        self.wrong(ROOM, self.paper(put(tree, (2, 2), SMALL)))
        self.wrong(ROOM, self.paper(put(tree, (2, 3), SMALL)))
        for room, paper in some_papers():
            for path in itertools.chain([()], paths_in(paper[2])):
                part = part_at(paper[2], path)
                if isinstance(part, tuple) and part[0] == "wall":
                    self.wrong(room, with_part(paper, 2, put(paper[2], path, SMALL)))

    def test_small_of_a_part_that_is_too_great_by_one(self):
        room = (5, 5, ((0, 2, 5, 2), (3, 2, 3, 5), (4, 1, 4, 1)))
        above = ("wall", 1, (SMALL, None, SMALL, None))
        self.right(room, (9, (0, 2, 3, 5), ("wall", 0, (None, ("wall", 2, (SMALL,) * 4), None, above))))
        self.wrong(room, (9, (0, 2, 3, 5), ("wall", 0, (None, SMALL, None, above))))

    def test_other_words(self):
        tree = self.good()
        for word in ("", "Small", "smaller", "small ", "walls", "Wall", "wal", "box", "none", 0, 1, None, True,
                     ("small",), ("wall",), ["wall"]):
            self.wrong(ROOM, self.paper(put(tree, (0,), word)))
            self.wrong(ROOM, self.paper(put(tree, (2, 0, 0), word)))
            self.wrong(ROOM, self.paper((word,)))
        self.wrong(ROOM, self.paper(put(tree, (0,), "small")))
        self.wrong(ROOM, self.paper(put(tree, (2, 0, 0), "wall")))
        self.wrong(ROOM, self.paper(put(tree, (2, 0), "small")))
        self.wrong(ROOM, self.paper("wall"))

    def test_parts_more_or_fewer(self):
        for room, paper in some_papers():
            for path in itertools.chain([()], paths_in(paper)):
                part = part_at(paper, path)
                if isinstance(part, tuple):
                    for other in (part[:-1], part[1:], part + (0,), part + (None,), part + (SMALL,), (part,),
                                  (None,) + part, part + part, ()):
                        self.wrong(room, put(paper, path, other))


class AnyThings(Checker):
    def test_odd_papers(self):
        for odd in odd_things() + [0, 1, -1, GREAT, SMALL, "small", ("small",) * 3]:
            for room in (ROOM, (1, 1, ()), FILLED[0]):
                self.wrong(room, odd)

    def test_an_odd_thing_for_any_part(self):
        for room, paper in some_papers():
            for path in paths_in(paper):
                for odd in odd_things():
                    part = part_at(paper, path)
                    if isinstance(odd, bool) or odd != part:
                        self.wrong(room, put(paper, path, odd))

    def test_a_number_for_what_is_none(self):
        for room, paper in some_papers():
            for path in paths_in(paper):
                if not isinstance(part_at(paper, path), int):
                    for number in (0, 1, -1, 2, GREAT, 10 ** 60):
                        self.wrong(room, put(paper, path, number))

    def test_lists_for_tuples(self):
        for room, paper in some_papers():
            self.wrong(room, list(paper))
            for path in paths_in(paper):
                part = part_at(paper, path)
                if isinstance(part, tuple):
                    self.wrong(room, put(paper, path, list(part)))

    def test_true_and_false_for_numbers(self):
        self.right((1, 1, ()), (1, (0, 0, 1, 1), SMALL))
        self.wrong((1, 1, ()), (True, (0, 0, 1, 1), SMALL))
        for at in range(4):
            self.wrong((1, 1, ()), (1, with_part((0, 0, 1, 1), at, at > 1), SMALL))
        filled = (2, 1, ((0, 0, 1, 1), (1, 0, 2, 1)))
        tree = ("wall", 0, (None, None, ("wall", 1, (None,) * 4), None))
        self.right(filled, (0, None, tree))
        self.wrong(filled, (False, None, tree))
        self.wrong(filled, (0, False, tree))
        self.wrong(filled, (0, None, put(tree, (1,), False)))
        self.wrong(filled, (0, None, put(tree, (2, 2, 1), True)))

    def test_things_of_all_depths(self):
        for room, paper in itertools.islice(some_papers(), 6, 10):
            for path in itertools.chain([()], paths_in(paper)):
                for of, inner in itertools.product((tuple, list), (0, None, "small", True)):
                    for depth in (1, 2, 3, 30 - len(path)):
                        thing = nested(depth, of, inner)
                        if thing != SMALL:
                            self.wrong(room, put(paper, path, thing))

    def test_trees_down_to_thirty_deep_that_end_in_odd_things(self):
        room = (3, 20, tuple((0, k, 3, k) for k in range(1, 20)))
        for odd in odd_things()[:20] + [0, -1, "small", ["small"], ("small", 0), ("wall", 14, (SMALL,) * 4)]:
            tree = odd
            for number in reversed(range(13)):
                tree = ("wall", number, (None, SMALL, None, tree))
            self.wrong(room, (3, (0, 0, 3, 1), tree))


if __name__ == "__main__":
    unittest.main()
