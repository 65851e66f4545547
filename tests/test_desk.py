"""The desk: DOC.md [1], [2] and [18]."""

import itertools
import random
import unittest

from emptybox.boxes import largest, wide_boxes
from emptybox.counting import areas, count_free, fits, sizes_of
from emptybox.desk import desk_told
from emptybox.errors import BadRow
from emptybox.gaps import with_gap
from emptybox.places import around
from emptybox.rooms import is_box
from emptybox.squares import largest_square
from emptybox.windows import greatest_in
from tests.helper import GREAT, ask_keeping, tells_own_lists

ASKS = ("boxes", "largest", "squares", "count", "sizes", "fits 1 2", "in 0 0 2 2", "around 0 0 1 1", "gap 1", "areas")

# Rows that are never written so.
WRONG_ROWS = (
    "", " ", "point", "point 1", "point 1 2 3", "wall", "wall 1 2 3", "wall 1 2 3 4 5", "away", "away 1 2",
    "away 1 2 3", "away 1 2 3 4 5", "undo 1", "undo ", " undo", "undone", "Undo", "boxes 1", "boxes ", " boxes",
    "box", "largest 1",
    "squares 1", "square", "count 0", "counts", "sizes 1", "size", "fits", "fits 1", "fits 1 2 3", "fit 1 2", "in",
    "in 1 2", "in 1 2 3", "in 1 2 3 4 5", "inside 1 2 3 4", "around", "around 1 2", "around 1 2 3", "around 1 2 3 4 5",
    "gap", "gap 1 2", "gap -1", "gap +1", "gap 01", "gap a", "gap 12345678", "areas 1", "area", "room 3 3", "room",
    "point 01 1", "point 1 -1", "point 1  1", "point 1 1 ", "wall 1 1 1 01", "wall 12345678 1 1 1", "fits 00 1",
    "fits 1 1 ", "in 0 0 1 +1", "around 0 0 1 1.0", "boxes;", "~", "none", "done", "0", "point\t1 1", "count\r",
    "boxes boxes", "largest largest", "BOXES", "gap 0 ", "gap  0")


def told_by(rows, wide=3, high=3):
    return desk_told("\n".join([f"room {wide} {high}", *rows]))


def boxes_text(boxes):
    return " ; ".join("{} {} {} {}".format(*box) for box in boxes) or "-"


def pair_text(area, boxes):
    return f"{area} : {boxes_text(boxes)}"


def answer_by_functions(room, word, numbers):
    """What an ask is told of a room, by what the functions tell."""
    if word in ("squares", "count", "sizes", "fits") and (room[0] > 40 or room[1] > 40):
        return "too great"
    if (word in ("in", "around") and not is_box(room, tuple(numbers))) or (word == "fits" and 0 in numbers):
        return "no box"
    if word == "boxes":
        return boxes_text(wide_boxes(room))
    if word == "largest":
        return pair_text(*largest(room))
    if word == "squares":
        side, corners = largest_square(room)
        return f"{side} times {len(corners)}"
    if word == "sizes":
        return " ; ".join(f"{wide} by {high}" for wide, high in sizes_of(room)) or "-"
    if word == "in":
        area, box = greatest_in(room, tuple(numbers))
        return pair_text(area, [box] if box else [])
    if word == "around":
        return boxes_text(around(room, tuple(numbers)))
    if word == "areas":
        return " ; ".join(f"{area} times {many}" for area, many in areas(room)) or "-"
    return str({"count": lambda: count_free(room), "fits": lambda: len(fits(room, *numbers)),
                "gap": lambda: largest(with_gap(room, *numbers))[0]}[word]())


class PlainDesk:
    """A desk that keeps nothing but walls, and all rooms that were."""

    def __init__(self, wide, high):
        self.rooms = [(wide, high, ())]

    def deed(self, word, numbers):
        wide, high, walls = self.rooms[-1]
        wall = tuple(numbers * 2 if word == "point" else numbers)
        a, b, c, d = wall
        if word == "away":
            if wall not in walls:
                return "NoWall"
            self.rooms.append((wide, high, tuple(one for one in walls if one != wall)))
            return "done"
        if not (a <= c <= wide and b <= d <= high):
            return "NoWall"
        if wall in walls:
            return "Taken"
        self.rooms.append((wide, high, tuple(sorted(walls + (wall,)))))
        return "done"

    def told(self, row):
        word, *figures = row.split(" ")
        numbers = [int(part) for part in figures]
        if word in ("point", "wall", "away"):
            return self.deed(word, numbers)
        if word == "undo":
            if len(self.rooms) == 1:
                return "none"
            self.rooms.pop()
            return "done"
        return answer_by_functions(self.rooms[-1], word, numbers)


class Told(unittest.TestCase):
    def agrees(self, size, rows, answers):
        text = "\n".join([f"room {size[0]} {size[1]}", *rows])
        told = ask_keeping(self, desk_told, text)
        self.assertIs(type(told), list)
        self.assertEqual([type(answer) for answer in told], [str] * len(rows))
        self.assertEqual(told, answers, text)

    def told_once(self, size, pairs):
        """Rows, each with the answer to it."""
        self.agrees(size, [row for row, answer in pairs], [answer for row, answer in pairs])


class EachRow(Told):
    def test_the_first_row_alone(self):
        self.agrees((1, 1), [], [])
        self.agrees((9999999, 1), [], [])

    def test_an_empty_room(self):
        self.told_once((6, 4), [
            ("boxes", "0 0 6 4"), ("largest", "24 : 0 0 6 4"), ("squares", "4 times 3"), ("count", "210"),
            ("sizes", "6 by 4"), ("fits 6 3", "2"), ("in 1 1 3 4", "6 : 1 1 3 4"), ("around 1 1 3 4", "0 0 6 4"),
            ("gap 3", "24"), ("areas", "24 times 1")])

    def test_a_point(self):
        self.told_once((6, 4), [
            ("point 2 1", "done"), ("boxes", "0 0 2 4 ; 0 0 6 1 ; 0 1 6 4 ; 2 0 6 4"), ("largest", "18 : 0 1 6 4"),
            ("squares", "4 times 1"), ("count", "186"), ("sizes", "4 by 4 ; 6 by 3"), ("fits 4 4", "1"),
            ("fits 1 1", "24"), ("in 1 0 4 3", "6 : 1 1 4 3"), ("around 3 1 4 2", "0 1 6 4 ; 2 0 6 4"),
            ("around 1 0 3 2", "-"), ("gap 0", "18"), ("gap 1", "12"), ("gap 9", "0"),
            ("areas", "6 times 1 ; 8 times 1 ; 16 times 1 ; 18 times 1")])

    def test_several_greatest(self):
        self.told_once((4, 4), [
            ("point 2 2", "done"), ("largest", "8 : 0 0 2 4 ; 0 0 4 2 ; 0 2 4 4 ; 2 0 4 4"), ("squares", "2 times 8"),
            ("areas", "8 times 4"), ("sizes", "2 by 4 ; 4 by 2"), ("in 0 0 4 4", "8 : 0 0 2 4")])

    def test_a_filled_room(self):
        self.told_once((3, 2), [
            ("wall 0 0 3 2", "done"), ("boxes", "-"), ("largest", "0 : -"), ("squares", "0 times 0"), ("count", "0"),
            ("sizes", "-"), ("fits 1 1", "0"), ("in 0 0 3 2", "0 : -"), ("around 0 0 1 1", "-"), ("gap 0", "0"),
            ("gap 5", "0"), ("areas", "-")])

    def test_deeds(self):
        self.told_once((4, 3), [
            ("undo", "none"), ("point 1 1", "done"), ("point 1 1", "Taken"), ("wall 1 1 1 1", "Taken"),
            ("wall 2 2 2 2", "done"), ("point 2 2", "Taken"), ("point 5 1", "NoWall"), ("point 1 4", "NoWall"),
            ("wall 2 1 1 1", "NoWall"), ("wall 1 2 1 1", "NoWall"), ("wall 0 0 5 0", "NoWall"),
            ("away 1 1 1 1", "done"), ("away 1 1 1 1", "NoWall"), ("away 0 0 0 0", "NoWall"),
            ("away 9 9 1 1", "NoWall"), ("undo", "done"), ("point 1 1", "Taken"), ("undo", "done"), ("undo", "done"),
            ("undo", "none"),
            ("undo", "none"), ("boxes", "0 0 4 3"), ("wall 0 0 4 3", "done"), ("undo", "done"), ("undo", "none")])

    def test_a_wall_of_each_kind(self):
        self.told_once((6, 4), [
            ("wall 2 0 2 4", "done"), ("boxes", "0 0 2 4 ; 2 0 6 4"), ("wall 3 1 4 3", "done"),
            ("boxes", "0 0 2 4 ; 2 0 3 4 ; 2 0 6 1 ; 2 3 6 4 ; 4 0 6 4"), ("away 2 0 2 4", "done"),
            ("boxes", "0 0 3 4 ; 0 0 6 1 ; 0 3 6 4 ; 4 0 6 4"), ("away 3 1 4 3", "done"), ("boxes", "0 0 6 4")])

    def test_a_refused_deed_changes_nothing(self):
        self.told_once((4, 3), [
            ("point 1 1", "done"), ("point 1 1", "Taken"), ("point 9 9", "NoWall"), ("away 2 2 2 2", "NoWall"),
            ("areas", "3 times 1 ; 4 times 1 ; 8 times 1 ; 9 times 1"), ("undo", "done"), ("areas", "12 times 1"),
            ("undo", "none")])

    def test_no_box(self):
        self.told_once((4, 3), [
            ("in 0 0 0 1", "no box"), ("in 0 0 1 0", "no box"), ("in 2 0 1 1", "no box"), ("in 0 2 1 1", "no box"),
            ("in 0 0 5 3", "no box"), ("in 0 0 4 4", "no box"), ("in 0 0 0 0", "no box"),
            ("in 0 0 4 3", "12 : 0 0 4 3"), ("around 0 0 0 1", "no box"), ("around 0 0 5 3", "no box"),
            ("around 0 0 4 4", "no box"),
            ("around 3 1 1 2", "no box"), ("around 0 0 4 3", "0 0 4 3"), ("fits 0 1", "no box"), ("fits 1 0", "no box"),
            ("fits 0 0", "no box"), ("fits 0 9", "no box"), ("fits 9 9", "0"), ("fits 5 1", "0"), ("fits 4 3", "1")])

    def test_too_great(self):
        for size in ((41, 40), (40, 41), (41, 1), (1, 41), (GREAT, GREAT)):
            self.told_once(size, [
                ("squares", "too great"), ("count", "too great"), ("sizes", "too great"), ("fits 1 1", "too great"),
                ("fits 0 1", "too great"), ("fits 0 0", "too great"), ("in 0 0 1 1", "1 : 0 0 1 1"),
                ("in 0 0 0 1", "no box"), ("around 0 0 0 1", "no box"), ("gap 1", str(size[0] * size[1])),
                ("areas", f"{size[0] * size[1]} times 1"), ("boxes", f"0 0 {size[0]} {size[1]}"),
                ("largest", f"{size[0] * size[1]} : 0 0 {size[0]} {size[1]}")])

    def test_forty(self):
        self.told_once((40, 40), [
            ("squares", "40 times 1"), ("count", "672400"), ("sizes", "40 by 40"), ("fits 1 1", "1600"),
            ("fits 0 1", "no box"), ("fits 40 40", "1"), ("fits 41 1", "0")])

    def test_seven_figures(self):
        self.told_once((GREAT, GREAT), [
            ("point 1000000 1000000", "done"), ("wall 0 500000 1000000 500000", "done"),
            ("largest", "500000000000 : 0 0 1000000 500000 ; 0 500000 1000000 1000000"),
            ("point 9999999 0", "NoWall"), ("in 0 0 9999999 1", "no box"), ("gap 9999999", "0"),
            ("gap 1", "499999000000")])


class ByFunctions(Told):
    def random_rows(self, source, size, many):
        """Rows of all kinds, most of which are right in such a room."""
        def number(below):
            return source.randint(0, min(9999999, below + below // 8))

        rows = []
        walls = []
        for _ in range(many):
            wide, high = size
            a, b, c, d = number(wide), number(high), number(wide), number(high)
            box = f"{min(a, c)} {min(b, d)} {max(a, c)} {max(b, d)}"
            choice = source.randint(0, 7)
            if choice == 0:
                rows.append(f"point {a} {b}")
            elif choice in (1, 2):
                rows.append(f"wall {a} {b} {source.choice((a, a + 1, c))} {source.choice((b, b + 1, d))}")
                walls.append(rows[-1][5:])
            elif choice == 3:
                rows.append("away " + (source.choice(walls) if walls else box))
            elif choice == 4:
                rows.append("undo")
            else:
                rows.append(source.choice(("boxes", "largest", "squares", "count", "sizes", "areas", f"gap {a // 4}",
                                           f"fits {a} {b}", f"in {box}", f"around {box}", f"in {a} {b} {c} {d}")))
        return rows

    def test_what_the_functions_tell_of_the_room_by_then(self):
        source = random.Random(18)
        for size in ((3, 3), (5, 4), (7, 7), (12, 5), (40, 40), (41, 40), (40, 41), (1, 1), (GREAT, GREAT), (300, 20)):
            for _ in range(4):
                rows = self.random_rows(source, size, 60)
                desk = PlainDesk(*size)
                self.agrees(size, rows, [desk.told(row) for row in rows])

    def test_each_answer_comes_up(self):
        source = random.Random(18)
        found = set()
        for _ in range(30):
            rows = self.random_rows(source, (6, 6), 60)
            found |= {answer for answer in told_by(rows, 6, 6) if answer[0] not in "0123456789"}
        self.assertEqual(found, {"done", "none", "NoWall", "Taken", "no box", "-"})

    def test_more_than_thirty_walls(self):
        rows = [f"point {7 * k % 39} {11 * k % 37}" for k in range(60)] + list(ASKS) + ["undo", "boxes"]
        desk = PlainDesk(40, 40)
        self.agrees((40, 40), rows, [desk.told(row) for row in rows])

    def test_a_hundred_rows(self):
        rows = [f"wall {k} {99 - k} {k + k % 3} {99 - k + k % 2}" for k in range(60)]
        rows += ["boxes", "undo", "largest"] * 13
        self.assertEqual(len(rows), 99)
        desk = PlainDesk(100, 100)
        self.agrees((100, 100), rows, [desk.told(row) for row in rows])


class BadRows(Told):
    def refused(self, text, row):
        with self.assertRaises(BadRow) as caught:
            desk_told(text)
        self.assertIs(type(caught.exception.row), int)
        self.assertEqual(caught.exception.row, row, text)

    def test_wrong_first_rows(self):
        for first in ("", " ", "room", "room 3", "room 3 3 3", "room 0 3", "room 3 0", "room 0 0", "room 03 3",
                      "room 3 3 ", " room 3 3", "room  3 3", "Room 3 3", "room -3 3", "room 12345678 3", "boxes",
                      "point 1 1", "undo", "room a b"):
            for rest in ("", "\nboxes", "\nfoolish", "\n"):
                self.refused(first + rest, 0)

    def test_wrong_rows(self):
        for wrong in WRONG_ROWS:
            for ahead in ([], ["boxes"], ["point 1 1", "count", "undo"]):
                for behind in ([], ["boxes"], ["foolish", ""]):
                    self.refused("\n".join(["room 3 3", *ahead, wrong, *behind]), 1 + len(ahead))

    def test_ahead_of_all_answers(self):
        # An earlier row that is refused otherwise isn't told of.
        for early in ("point 9 9", "wall 1 1 0 0", "away 1 1 1 1", "undo", "in 0 0 9 9", "fits 0 0", "around 1 1 1 1"):
            self.refused(f"room 3 3\n{early}\npoint 1 1\npoint 1 1\nfoolish\nboxes 1", 4)
        self.refused("room 41 41\ncount\nfits 0 0\nfits 0", 3)

    def test_figures_and_words_alone(self):
        for row, answer in (("point 9 9", "NoWall"), ("wall 3 3 0 0", "NoWall"), ("in 3 3 0 0", "no box"),
                            ("around 0 0 9 9", "no box"), ("fits 0 0", "no box"), ("point 9999999 9999999", "NoWall"),
                            ("wall 1 1 1 1", "done"), ("gap 9999999", "9")):
            self.assertEqual(told_by([row]), [answer])

    def test_a_line_feed_at_the_end(self):
        self.refused("room 3 3\n", 1)
        self.refused("room 3 3\nboxes\n", 2)
        self.refused("room 3 3\n\nboxes", 1)

    def test_the_first_of_several(self):
        for one, other in itertools.combinations(range(1, 6), 2):
            rows = ["room 3 3"] + ["boxes"] * 5
            rows[one], rows[other] = "foolish", ""
            self.refused("\n".join(rows), one)


class Own(Told):
    def test_told_lists_are_the_asker_s_own(self):
        tells_own_lists(self, desk_told, "room 3 3\n" + "\n".join(ASKS))
        tells_own_lists(self, desk_told, "room 3 3\npoint 1 1\nundo\nundo")
        tells_own_lists(self, desk_told, "room 3 3")

    def test_one_desk_does_not_change_another(self):
        rows = ["point 1 1", "boxes", "undo", "boxes"]
        first = told_by(rows)
        told_by(["wall 0 0 3 3", "boxes"])
        self.assertEqual(told_by(rows), first)


if __name__ == "__main__":
    unittest.main()
