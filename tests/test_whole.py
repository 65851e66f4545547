"""What is promised of the whole: DOC.md [1], [2] and the interface."""

import importlib
import inspect
import itertools
import random
import unittest

from emptybox.boxes import largest, wide_boxes
from emptybox.counting import areas, count_free, fits, sizes_of
from emptybox.desk import desk_told
from emptybox.gaps import gap_of, with_gap
from emptybox.greatest import greatest_paper
from emptybox.greatestcheck import shows_greatest
from emptybox.kept import Kept
from emptybox.kinds import by_kinds, free_sides
from emptybox.places import around, at_place, bounded_by
from emptybox.rooms import area_of, in_both, is_free, is_room, lies_in, room_of
from emptybox.squares import largest_square, squares_of
from emptybox.stretches import Stretches, column_stretches, rise_over, row_stretches
from emptybox.texts import room_from, room_text
from emptybox.widecheck import shows_wide
from emptybox.widening import bounds_of, is_wide, widened
from emptybox.windows import greatest_in, in_window
from tests.helper import (
    FILLED, GREAT, GREAT_FILLED, all_boxes, all_walls, first_of_the_greatest, great_rooms, mixed_rooms,
    not_within_another, room_of_forty, room_of_thirty)

# Each file's functions, with how many things they are handed, and the methods of its classes.
INTERFACE = {
    "rooms": {"is_room": 1, "is_box": 2, "room_of": 3, "kind_of": 1, "walls_in": 2, "is_free": 2, "area_of": 1,
              "lies_in": 2, "in_both": 2},
    "widening": {"reaches": 2, "is_wide": 2, "bounds_of": 2, "widened": 3},
    "widecheck": {"shows_wide": 3},
    "boxes": {"wide_boxes": 1, "largest": 1},
    "kinds": {"kinds_of": 2, "by_kinds": 1, "free_sides": 1},
    "windows": {"in_window": 2, "greatest_in": 2},
    "places": {"around": 2, "at_place": 3, "bounded_by": 3, "clear_pairs": 1},
    "gaps": {"with_gap": 2, "gap_of": 2},
    "squares": {"largest_square": 1, "squares_of": 2},
    "counting": {"areas": 1, "fits": 3, "count_free": 1, "sizes_of": 1},
    "greatest": {"greatest_paper": 1},
    "greatestcheck": {"shows_greatest": 2},
    "stretches": {"row_stretches": 2, "column_stretches": 2, "rise_over": 4,
                  "Stretches": {"__init__": 2, "greatest_over": 3, "greatest_up": 3, "profile": 1}},
    "kept": {"Kept": {"__init__": 2, "room_now": 1, "boxes_now": 1, "largest_now": 1, "come": 2, "go": 2, "undo": 1,
                      "looked": 1}},
    "texts": {"room_text": 1, "room_from": 1},
    "desk": {"desk_told": 1},
}


def rooms_after_deeds(many=10):
    """Keepers of rooms to which walls have come and gone, each with the room as it must be by now."""
    source = random.Random(1)
    for room in itertools.chain(mixed_rooms(many), great_rooms(1), [room_of_forty()]):
        kept, there = Kept(room), list(room[2])
        for _ in range(12):
            if there and source.randint(0, 2) == 0:
                wall = there.pop(source.randrange(len(there)))
                kept.go(wall)
            else:
                a, b = source.randint(0, room[0]), source.randint(0, room[1])
                wall = (a, b, source.randint(a, room[0]) if source.randint(0, 1) else a, b)
                if wall not in there:
                    kept.come(wall)
                    there.append(wall)
                    if source.randint(0, 3) == 0:
                        kept.undo()
                        there.pop()
        yield kept, room_of(room[0], room[1], there)


def some_rooms_of_all_sizes():
    return itertools.chain(mixed_rooms(30), FILLED, great_rooms(2), [GREAT_FILLED, room_of_forty(), (1, 1, ()),
                                                                     room_of_thirty(GREAT // 10)])


def windows_of(room, source, many=12):
    """Windows of a room, all of it among them."""
    yield (0, 0, room[0], room[1])
    for _ in range(many):
        left, low = source.randrange(room[0]), source.randrange(room[1])
        yield (left, low, source.randint(left + 1, room[0]), source.randint(low + 1, room[1]))


def cut(boxes, window):
    """What boxes, cut by a window, come to."""
    parts = [in_both(box, window) for box in boxes]
    return not_within_another(part for part in parts if part is not None)


class Shown(unittest.TestCase):
    def shown(self, room, boxes):
        """That each box is free, and that what bounds its sides shows that it's wide."""
        for box in boxes:
            self.assertTrue(is_free(room, box))
            bounds = bounds_of(room, box)
            self.assertIs(shows_wide(room, box, tuple(side[0] for side in bounds)), True)
            self.assertIs(shows_wide(room, box, tuple(side[-1] for side in bounds)), True)

    def test_each_told_box(self):
        for room in some_rooms_of_all_sizes():
            wide = wide_boxes(room)
            self.shown(room, wide)
            self.assertEqual(wide, sorted(set(wide)))
            told = [largest(room)[1], free_sides(room), at_place(room, room[0], 0), Kept(room).boxes_now(),
                    Kept(room).largest_now()[1], around(room, (0, 0, 1, 1))]
            told += [bounded_by(room, number, number) for number in range(len(room[2]))]
            for boxes in told:
                self.assertEqual([box for box in wide if box in boxes], boxes)

    def test_each_box_told_of_deeds(self):
        for kept, room in rooms_after_deeds():
            before = kept.room_now()
            gone, new = kept.come((0, 0, 1, 0)) if (0, 0, 1, 0) not in before[2] else kept.go((0, 0, 1, 0))
            self.shown(before, gone)
            self.shown(kept.room_now(), new)
            back, again = kept.undo()
            self.shown(kept.room_now(), again)

    def test_none_is_left_out(self):
        source = random.Random(2)
        for room in some_rooms_of_all_sizes():
            wide = wide_boxes(room)
            for box in windows_of(room, source):
                if is_free(room, box):
                    for order in ([0, 1, 2, 3], [3, 2, 1, 0], [1, 3, 0, 2]):
                        self.assertIn(widened(room, box, order), wide)
                    self.assertEqual(around(room, box), [one for one in wide if lies_in(box, one)])
                    self.assertTrue(around(room, box))


class GreatestOfAll(unittest.TestCase):
    def test_all_tell_the_same(self):
        for room in some_rooms_of_all_sizes():
            area, boxes = largest(room)
            first = boxes[0] if boxes else None
            whole = (0, 0, room[0], room[1])
            self.assertEqual(Kept(room).largest_now(), (area, boxes))
            self.assertEqual(greatest_in(room, whole), (area, first))
            self.assertEqual(Stretches(room).greatest_over(0, room[0]), (area, first))
            self.assertEqual(Stretches(room).greatest_up(0, room[1]), (area, first))
            self.assertEqual((areas(room) or [(0, 0)])[-1], (area, len(boxes)))
            self.assertEqual(largest(with_gap(room, 0)), (area, boxes))

    def test_shown_by_its_tree(self):
        for room in some_rooms_of_all_sizes():
            lesser = (room[0], room[1], room[2][:12])
            paper = greatest_paper(lesser)
            area, boxes = largest(lesser)
            self.assertEqual(paper[:2], (area, boxes[0] if boxes else None))
            for box in boxes or [None]:
                self.assertIs(shows_greatest(lesser, (area, box, paper[2])), True)
            self.assertIs(shows_greatest(lesser, (area + 1, None, paper[2])), False)

    def test_small_rooms_by_sizes(self):
        for room in itertools.chain(mixed_rooms(30), FILLED, [room_of_forty()]):
            sizes = sizes_of(room)
            self.assertEqual(max([wide * high for wide, high in sizes], default=0), largest(room)[0])
            self.assertEqual(max([min(size) for size in sizes], default=0), largest_square(room)[0])
            self.assertEqual(max(Stretches(room).profile()), largest(room)[0])
            self.assertEqual(bool(sizes), count_free(room) > 0)
            for wide, high in sizes:
                self.assertTrue(fits(room, wide, high))
            if sizes:
                self.assertEqual(squares_of(room, largest_square(room)[0]), largest_square(room)[1])


class AsIfFoundAnew(unittest.TestCase):
    def test_behind_deeds(self):
        for kept, room in rooms_after_deeds():
            self.assertEqual(kept.room_now(), room)
            self.assertIs(is_room(kept.room_now()), True)
            self.assertEqual(kept.boxes_now(), wide_boxes(room))
            self.assertEqual(kept.largest_now(), largest(room))
            anew = Kept(room)
            for wall in room[2][:3]:
                self.assertEqual(kept.go(wall), anew.go(wall))
                self.assertEqual(kept.looked(), anew.looked())
            self.assertEqual(kept.undo(), anew.undo())
            self.assertEqual((kept.room_now(), kept.boxes_now()), (anew.room_now(), anew.boxes_now()))

    def test_in_any_order_of_the_walls(self):
        source = random.Random(3)
        for room in mixed_rooms(30):
            walls = list(room[2])
            source.shuffle(walls)
            kept = Kept((room[0], room[1], ()))
            for wall in walls:
                kept.come(wall)
            self.assertEqual((kept.room_now(), kept.boxes_now()), (room, wide_boxes(room)))

    def test_by_a_desk(self):
        for room in itertools.chain(mixed_rooms(30), great_rooms(2)):
            boxes = " ; ".join("{} {} {} {}".format(*box) for box in wide_boxes(room)) or "-"
            self.assertEqual(desk_told(room_text(room) + "\nboxes"), ["done"] * len(room[2]) + [boxes])
            whole = f"0 0 {room[0]} {room[1]}"
            if (0, 0, room[0], room[1]) not in room[2]:
                told = desk_told(room_text(room) + f"\nwall {whole}\nboxes\naway {whole}\nboxes\nundo\nundo\nboxes")
                self.assertEqual(told[-7:], ["done", "-", "done", boxes, "done", "done", boxes])

    def test_by_a_text(self):
        for room in some_rooms_of_all_sizes():
            self.assertEqual(wide_boxes(room_from(room_text(room))), wide_boxes(room))


class CutByIt(unittest.TestCase):
    def test_windows(self):
        source = random.Random(4)
        for room in some_rooms_of_all_sizes():
            wide = wide_boxes(room)
            for window in windows_of(room, source):
                parts = cut(wide, window)
                self.assertEqual(in_window(room, window), parts)
                self.assertEqual(greatest_in(room, window), first_of_the_greatest(parts))

    def test_stretches(self):
        source = random.Random(5)
        for room in some_rooms_of_all_sizes():
            wide, kept = wide_boxes(room), Stretches(room)
            for left, low, right, top in windows_of(room, source):
                over, up = (left, 0, right, room[1]), (0, low, room[0], top)
                self.assertEqual(kept.greatest_over(left, right), first_of_the_greatest(cut(wide, over)))
                self.assertEqual(kept.greatest_up(low, top), first_of_the_greatest(cut(wide, up)))

    def test_rows_and_columns(self):
        source = random.Random(6)
        for room in some_rooms_of_all_sizes():
            wide = wide_boxes(room)
            for left, low, right, top in windows_of(room, source):
                row = cut(wide, (0, low, room[0], low + 1))
                column = cut(wide, (left, 0, left + 1, room[1]))
                self.assertEqual(row_stretches(room, low), [(box[0], box[2]) for box in row])
                self.assertEqual(column_stretches(room, left), [(box[1], box[3]) for box in column])
                tops = [box[3] for box in wide if lies_in((left, low, right, low + 1), box)]
                self.assertEqual(rise_over(room, left, right, low), max(tops, default=None))

    def test_profile(self):
        for room in itertools.chain(mixed_rooms(30), FILLED, [room_of_forty()]):
            wide = wide_boxes(room)
            columns = [max([area_of(box) for box in wide if in_both(box, (x, 0, x + 1, room[1]))], default=0)
                       for x in range(room[0])]
            self.assertEqual(Stretches(room).profile(), columns)


class ToldAgain(unittest.TestCase):
    def test_the_same_question(self):
        asks = (wide_boxes, largest, by_kinds, free_sides, areas, greatest_paper, room_text)
        for room in mixed_rooms(20, 12):
            for ask in asks:
                self.assertEqual(ask(room), ask(room))

    def test_what_was_told_may_be_handed_in(self):
        for room in mixed_rooms(20):
            for box in wide_boxes(room):
                self.assertTrue(is_wide(room, box))
                self.assertEqual(in_window(room, box), [box])
                self.assertEqual(widened(room, box, (0, 1, 2, 3)), box)
                self.assertEqual(around(room, box), [box])
                gap = gap_of(room, box)
                self.assertEqual(gap is None, room[2] == ())
                if gap is not None:
                    self.assertTrue(is_free(with_gap(room, gap), box))
            self.assertEqual(room_of(room[0], room[1], list(room[2]) * 2), room)
            self.assertEqual(Kept(with_gap(room, 1)).boxes_now(), wide_boxes(with_gap(room, 1)))

    def test_lists_and_tuples_where_a_list_is_named(self):
        walls = all_walls(2, 2)[::4]
        self.assertEqual(room_of(2, 2, walls), room_of(2, 2, tuple(walls)))
        for box in all_boxes(3, 3):
            self.assertEqual(widened((3, 3, ()), box, [2, 1, 0, 3]), widened((3, 3, ()), box, (2, 1, 0, 3)))


class Interface(unittest.TestCase):
    def takes(self, function, many):
        kinds = (inspect.Parameter.POSITIONAL_OR_KEYWORD,)
        places = [part for part in inspect.signature(function).parameters.values()
                  if part.kind in kinds and part.default is inspect.Parameter.empty]
        self.assertEqual(len(places), many, function)

    def test_names(self):
        for file, names in INTERFACE.items():
            module = importlib.import_module("emptybox." + file)
            for name, many in names.items():
                if isinstance(many, int):
                    self.takes(getattr(module, name), many)
                else:
                    for method, count in many.items():
                        self.takes(vars(getattr(module, name))[method], count)


if __name__ == "__main__":
    unittest.main()
