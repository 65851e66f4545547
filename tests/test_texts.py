"""Texts of rooms: DOC.md [2] and [17]."""

import itertools
import unittest

from emptybox.errors import BadRow
from emptybox.rooms import is_room, kind_of, room_of
from emptybox.texts import room_from, room_text
from tests.helper import GREAT, all_walls, ask_keeping, great_rooms, room_of_thirty, some_rooms

# A room with walls of each kind, and its text.
ROOM = (10, 6, ((0, 0, 1, 6), (4, 2, 4, 2), (4, 2, 4, 5), (6, 3, 9, 3)))
TEXT = "room 10 6\nwall 0 0 1 6\npoint 4 2\nwall 4 2 4 5\nwall 6 3 9 3"

# Rows that are never written so, whatever stands ahead.
WRONG_ROWS = (
    "", " ", "  ", "point", "wall", "point 1", "point 1 2 3", "point 1 2 1 2", "wall 1 2", "wall 1 2 3",
    "wall 1 2 3 4 5", "point 1 2 ", " point 1 2", "point  1 2", "point 1  2", "wall 1 2 3 4 ", " wall 1 2 3 4",
    "wall  1 2 3 4", "wall 1 2  3 4", "point 01 2", "point 1 02", "point 00 0", "wall 01 2 3 4", "wall 1 2 3 04",
    "point 12345678 1", "point 1 00000001", "point +1 2", "point -1 2", "wall 1 2 3 +4", "wall -1 2 3 4", "point 1,2",
    "point 1.0 2", "point a b", "point x y", "point 1 2;", "point 1_0 2", "point 0x1 2", "Point 1 2", "POINT 1 2",
    "points 1 2", "Wall 1 2 3 4", "walls 1 2 3 4", "block 1 2 3 4", "straight 1 2 1 4", "box 1 2 3 4", "1 2", "1 2 3 4",
    "1 2 point", "away 1 2 3 4", "undo", "boxes", "point\t1 2", "point 1\t2", "point 1 2\r", "wall(1 2 3 4)",
    "point 1 2 #", "wall 1 1 1 1", "wall 2 3 2 3", "wall 0 0 0 0", "room 10 6", "room", "point 1 2 wall 1 2 3 4", "~",
    "point ~ ~", "point 1e1 2", "point None 2", "point True 2", "point  ", "wall    ", "point 1 2\x0b",
    "point \u0661 2", "point \u00b2 2")

# First rows that are never written so.
WRONG_FIRST = (
    "", " ", "room", "room 3", "room 3 3 3", "room 3 3 ", " room 3 3", "room  3 3", "room 3  3", "room 03 3",
    "room 3 03", "room 0 3", "room 3 0", "room 0 0", "room 00 3", "room +3 3", "room -3 3", "room 3 -3", "room 3.0 3",
    "room a b", "room 12345678 1", "room 1 12345678", "room 10000000 1", "Room 3 3", "ROOM 3 3", "rooms 3 3", "3 3",
    "3 3 room", "point 1 2", "wall 1 2 3 4", "room 3,3", "room 3x3", "room\t3 3", "room 3 3\r", "room 3 3 point 1 1",
    "~", "room room 3 3")


class Texts(unittest.TestCase):
    def refused(self, text, row):
        with self.assertRaises(BadRow) as caught:
            room_from(text)
        self.assertIs(type(caught.exception.row), int)
        self.assertEqual(caught.exception.row, row, text)

    def agrees(self, room, text):
        self.assertEqual(ask_keeping(self, room_text, room), text)
        self.assertIs(type(room_text(room)), str)
        self.read(text, room)

    def read(self, text, room):
        told = ask_keeping(self, room_from, text)
        self.assertEqual(told, room)
        self.assertIs(is_room(told), True)


class Written(Texts):
    def test_each_kind(self):
        self.agrees(ROOM, TEXT)

    def test_no_walls(self):
        self.agrees((1, 1, ()), "room 1 1")
        self.agrees((7, 3, ()), "room 7 3")
        self.agrees((GREAT, GREAT, ()), "room 1000000 1000000")

    def test_each_wall(self):
        for wall in all_walls(3, 2):
            row = f"point {wall[0]} {wall[1]}" if kind_of(wall) == "point" else "wall {} {} {} {}".format(*wall)
            self.agrees((3, 2, (wall,)), "room 3 2\n" + row)

    def test_the_one_against_the_other(self):
        for room in some_rooms():
            text = room_text(room)
            self.agrees(room, text)
            self.assertEqual(len(text.split("\n")), 1 + len(room[2]))
            self.assertEqual(room_text(room_from(text)), text)

    def test_seven_figures(self):
        self.agrees((GREAT, GREAT, ((0, 0, GREAT, GREAT), (GREAT, GREAT, GREAT, GREAT))),
                    "room 1000000 1000000\nwall 0 0 1000000 1000000\npoint 1000000 1000000")
        for room in (*great_rooms(), room_of_thirty(GREAT // 10)):
            self.agrees(room, room_text(room))

    def test_how_great_it_is_is_not_looked_at(self):
        self.agrees((9999999, 9999999, ((5, 6, 9999999, 9999999), (9999999, 9999999, 9999999, 9999999))),
                    "room 9999999 9999999\nwall 5 6 9999999 9999999\npoint 9999999 9999999")
        self.read("room 1 9999999", (1, 9999999, ()))

    def test_more_than_thirty_walls(self):
        walls = [(x, y, x, y) for x in range(9) for y in range(11)]
        room = room_of(40, 40, walls)
        self.assertEqual(len(room[2]), 99)
        self.agrees(room, room_text(room))
        many = room_of(200, 200, [(k, k, k, 200) for k in range(150)])
        self.agrees(many, room_text(many))

    def test_a_beginning_ahead_of_what_goes_on(self):
        self.read("room 9 9\npoint 1 1\nwall 1 1 1 2\nwall 1 1 2 1\npoint 1 2\nwall 1 2 1 3\npoint 2 0",
                  (9, 9, ((1, 1, 1, 1), (1, 1, 1, 2), (1, 1, 2, 1), (1, 2, 1, 2), (1, 2, 1, 3), (2, 0, 2, 0))))

    def test_numbers_and_not_texts_rise(self):
        self.read("room 99 9\npoint 9 1\npoint 10 1", (99, 9, ((9, 1, 9, 1), (10, 1, 10, 1))))
        self.refused("room 99 9\npoint 10 1\npoint 9 1", 2)


class FirstRow(Texts):
    def test_wrong_first_rows(self):
        for row in WRONG_FIRST:
            for rest in ("", "\npoint 1 1", "\n", "\nfoolish", "\nroom 3 3"):
                self.refused(row + rest, 0)

    def test_an_empty_text(self):
        self.refused("", 0)
        self.refused("\n", 0)
        self.refused("\nroom 3 3", 0)

    def test_none_of_its_kind_further_down(self):
        self.refused("room 3 3\nroom 3 3", 1)


class Rows(Texts):
    def test_wrong_rows(self):
        rows = TEXT.split("\n")
        for wrong in WRONG_ROWS:
            for at in range(1, len(rows) + 1):
                text = "\n".join(rows[:at] + [wrong] + rows[at:])
                self.refused(text, at)
                if at < len(rows):
                    self.refused("\n".join(rows[:at] + [wrong] + rows[at + 1:]), at)

    def test_the_first_of_several(self):
        rows = TEXT.split("\n")
        for one, other in itertools.combinations(range(1, len(rows)), 2):
            for wrong in ("foolish", "", "wall 9 9 1 1", "point 99 1", "wall 1 1 1 1"):
                for last in ("room", "", "point 99 1"):
                    changed = list(rows)
                    changed[one], changed[other] = wrong, last
                    self.refused("\n".join(changed), one)

    def test_a_line_feed_at_the_end(self):
        self.refused(TEXT + "\n", 5)
        self.refused("room 3 3\n", 1)
        self.refused("room 3 3\n\n", 1)

    def test_an_empty_row_between(self):
        self.refused("room 3 3\n\npoint 1 1", 1)
        self.refused("room 3 3\npoint 1 1\n\npoint 2 2", 2)

    def test_a_point_as_a_wall(self):
        self.refused("room 3 3\nwall 1 1 1 1", 1)
        self.refused("room 3 3\npoint 0 0\nwall 1 1 1 1\npoint 0 0", 2)

    def test_walls_turned_about(self):
        for wall in ("2 1 1 2", "1 2 2 1", "2 2 1 1", "2 1 1 1", "1 2 1 1"):
            self.refused("room 3 3\nwall " + wall, 1)

    def test_walls_beyond_the_room(self):
        for row in ("point 4 1", "point 1 3", "wall 0 0 4 2", "wall 0 0 3 3", "wall 4 0 5 0", "wall 0 3 0 4",
                    "point 9999999 0"):
            self.refused("room 3 2\n" + row, 1)
            self.refused("room 3 2\npoint 0 0\n" + row, 2)
        for row in ("point 3 2", "wall 0 0 3 2", "wall 3 0 3 2", "wall 0 2 3 2"):
            self.assertEqual(len(room_from("room 3 2\n" + row)[2]), 1)

    def test_walls_that_do_not_rise(self):
        self.refused("room 9 9\npoint 2 2\npoint 1 1", 2)
        self.refused("room 9 9\npoint 1 1\npoint 3 3\npoint 2 2\npoint 1 1", 3)
        self.refused("room 9 9\npoint 1 2\npoint 1 1", 2)
        self.refused("room 9 9\nwall 1 1 2 2\nwall 1 1 2 1", 2)
        self.refused("room 9 9\nwall 1 1 2 2\nwall 1 1 1 3", 2)
        self.refused("room 9 9\nwall 1 1 2 2\npoint 1 1", 2)
        self.refused("room 9 9\npoint 1 1\npoint 5 5\nwall 1 1 2 2", 3)

    def test_twice_the_same(self):
        self.refused("room 9 9\npoint 1 1\npoint 1 1", 2)
        self.refused("room 9 9\nwall 1 1 2 2\nwall 1 1 2 2", 2)
        self.refused("room 9 9\npoint 0 0\nwall 1 1 2 2\nwall 1 1 2 2\nfoolish", 3)

    def test_row_by_row(self):
        # Each row is looked at in full ahead of those below it.
        self.refused("room 3 3\npoint 4 4\nfoolish", 1)
        self.refused("room 3 3\nfoolish\npoint 4 4", 1)
        self.refused("room 3 3\npoint 2 2\npoint 1 1\nfoolish", 2)
        self.refused("room 3 3\npoint 2 2\nfoolish\npoint 1 1", 2)

    def test_a_hundred_rows(self):
        rows = ["room 100 100"] + [f"wall {k} 0 {k} 99" for k in range(99)]
        self.assertEqual(len(room_from("\n".join(rows))[2]), 99)
        for at in (1, 50, 99):
            self.refused("\n".join(rows[:at] + ["wall 0 0 0"] + rows[at + 1:]), at)
            self.refused("\n".join(rows[:at] + ["x" * 100] + rows[at + 1:]), at)

    def test_each_sign_put_in(self):
        for at in range(len(TEXT) + 1):
            for sign in " ~ax-+.,_":
                text = TEXT[:at] + sign + TEXT[at:]
                self.refused(text, TEXT[:at].count("\n"))

    def test_a_nought_ahead(self):
        for at, sign in enumerate(TEXT):
            if sign.isdigit() and TEXT[at - 1] == " ":
                self.refused(TEXT[:at] + "0" + TEXT[at:], TEXT[:at].count("\n"))

    def test_words_left_out(self):
        rows = [row.split(" ") for row in TEXT.split("\n")]
        for at, row in enumerate(rows):
            for left_out in range(len(row)):
                changed = rows[:at] + [row[:left_out] + row[left_out + 1:]] + rows[at + 1:]
                self.refused("\n".join(" ".join(words) for words in changed), at)


if __name__ == "__main__":
    unittest.main()
