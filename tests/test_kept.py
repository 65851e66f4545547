"""Rooms that are kept: DOC.md [1], [2], [15] and [16]."""

import itertools
import random
import unittest

from emptybox.boxes import largest, wide_boxes
from emptybox.errors import BoxError, NoWall, Taken
from emptybox.kept import Kept
from emptybox.rooms import kind_of, room_of
from tests.helper import (
    FILLED, GREAT, GREAT_FILLED, all_walls, ask_keeping, free_boxes, great_rooms, lists_in, mixed_rooms, rising_row,
    room_of_thirty, small_rooms, tells_own_lists, wide_by_splitting, wide_by_steps)

# Tuples of four numbers that are no walls of a room 4 wide and 3 high.
NO_WALLS = ((5, 0, 5, 0), (0, 4, 0, 4), (0, 0, 5, 0), (0, 0, 0, 4), (-1, 0, 0, 0), (0, -1, 0, 0), (2, 0, 1, 0),
            (0, 2, 0, 1), (4, 3, 0, 0), (-2, -2, -1, -1), (GREAT, GREAT, GREAT, GREAT), (0, 0, GREAT, GREAT),
            (0, 0, 10 ** 60, 1), (-10 ** 60, 0, 1, 1))


def differences(before, after):
    """What was and is no more, and what wasn't and is now."""
    return ([box for box in before if box not in after], [box for box in after if box not in before])


def with_wall(room, wall):
    return (room[0], room[1], tuple(sorted(room[2] + (wall,))))


def without_wall(room, wall):
    return (room[0], room[1], tuple(one for one in room[2] if one != wall))


class Deeds(unittest.TestCase):
    """Deeds on a Kept, each compared with the room's boxes found anew, ahead and behind."""

    def keep(self, room):
        self.kept = Kept(room)
        self.rooms = [room]
        self.stands(room, 0)

    def stands(self, room, looked):
        boxes = wide_by_splitting(room)
        areas = [(right - left) * (top - low) for left, low, right, top in boxes]
        area = max(areas, default=0)
        self.assertEqual(self.kept.room_now(), room)
        self.assertEqual(self.kept.boxes_now(), boxes)
        self.assertEqual(self.kept.largest_now(), (area, [box for box, one in zip(boxes, areas) if one == area]))
        self.assertIs(type(self.kept.looked()), int)
        self.assertEqual(self.kept.looked(), looked)

    def told(self, answer, before, after):
        """That this was told of a deed by which the one room became the other."""
        lists = differences(wide_by_splitting(before), wide_by_splitting(after))
        self.assertEqual([type(part) for part in (answer, *answer)], [tuple, list, list])
        self.assertEqual(answer, lists)
        self.assertEqual(answer, tuple(sorted(set(part)) for part in answer))
        self.stands(after, len(lists[0]) + len(lists[1]))

    def come(self, wall):
        before = self.rooms[-1]
        self.rooms.append(with_wall(before, wall))
        self.told(ask_keeping(self, self.kept.come, wall), before, self.rooms[-1])

    def go(self, wall):
        before = self.rooms[-1]
        self.rooms.append(without_wall(before, wall))
        self.told(ask_keeping(self, self.kept.go, wall), before, self.rooms[-1])

    def undo(self):
        before = self.rooms.pop()
        self.told(self.kept.undo(), before, self.rooms[-1])

    def undo_nothing(self):
        self.assertEqual(len(self.rooms), 1)
        self.assertIsNone(self.kept.undo())
        self.stands(self.rooms[0], 0)

    def refused(self, error, deed, wall):
        looked = self.kept.looked()
        with self.assertRaises(BoxError) as caught:
            ask_keeping(self, deed, wall)
        self.assertIs(type(caught.exception), error, wall)
        self.stands(self.rooms[-1], looked)

    def at_random(self, source, wall_of, many):
        """So many deeds and undos, in any order."""
        for _ in range(many):
            walls = self.rooms[-1][2]
            wall = wall_of(source)
            choice = source.randint(0, 9)
            if choice < 2:
                self.undo() if len(self.rooms) > 1 else self.undo_nothing()
            elif choice < 5 and walls:
                self.go(source.choice(walls))
            elif wall in walls:
                self.refused(Taken, self.kept.come, wall)
            else:
                self.come(wall)


class AtFirst(Deeds):
    def test_nothing_done(self):
        for room in itertools.chain(small_rooms(), mixed_rooms(), FILLED, great_rooms(2), [GREAT_FILLED]):
            self.keep(room)
            self.undo_nothing()

    def test_as_the_functions_tell(self):
        for room in itertools.chain(mixed_rooms(), great_rooms()):
            kept = Kept(room)
            self.assertEqual(kept.boxes_now(), wide_boxes(room))
            self.assertEqual(kept.largest_now(), largest(room))
            self.assertIs(type(kept.boxes_now()), list)
            self.assertEqual([type(part) for part in (kept.largest_now(), *kept.largest_now())], [tuple, int, list])

    def test_methods_stand_in_the_class(self):
        for name in ("room_now", "boxes_now", "largest_now", "come", "go", "undo", "looked"):
            self.assertIn(name, vars(Kept))


class ComeAndGo(Deeds):
    def test_each_wall_of_small_rooms(self):
        for room in itertools.islice(small_rooms(), 0, None, 7):
            for wall in all_walls(room[0], room[1]):
                self.keep(room)
                if wall in room[2]:
                    self.go(wall)
                    self.come(wall)
                else:
                    self.come(wall)
                    self.go(wall)

    def test_each_wall_of_mixed_rooms(self):
        for at, room in enumerate(mixed_rooms(24)):
            for wall in all_walls(room[0], room[1])[at % 5::19]:
                self.keep(room)
                if wall not in room[2]:
                    self.come(wall)
                for one in room[2][:2] + (wall,):
                    if one in self.rooms[-1][2]:
                        self.go(one)

    def test_against_all_boxes_one_by_one(self):
        for room in mixed_rooms(30):
            kept = Kept(room)
            for wall in room[2] + room[2]:
                before = wide_by_steps(kept.room_now())
                told = kept.go(wall) if wall in kept.room_now()[2] else kept.come(wall)
                after = wide_by_steps(kept.room_now())
                self.assertEqual(told, differences(before, after))
                self.assertEqual(kept.boxes_now(), after)

    def test_each_kind(self):
        self.keep((6, 4, ()))
        self.assertEqual(Kept((6, 4, ())).come((2, 1, 2, 1)), (
            [(0, 0, 6, 4)], [(0, 0, 2, 4), (0, 0, 6, 1), (0, 1, 6, 4), (2, 0, 6, 4)]))
        self.assertEqual(Kept((6, 4, ())).come((2, 0, 2, 4)), ([(0, 0, 6, 4)], [(0, 0, 2, 4), (2, 0, 6, 4)]))
        self.assertEqual(Kept((6, 4, ())).come((2, 1, 4, 3)), (
            [(0, 0, 6, 4)], [(0, 0, 2, 4), (0, 0, 6, 1), (0, 3, 6, 4), (4, 0, 6, 4)]))
        self.assertEqual(Kept((6, 4, ((2, 1, 4, 3),))).go((2, 1, 4, 3)), (
            [(0, 0, 2, 4), (0, 0, 6, 1), (0, 3, 6, 4), (4, 0, 6, 4)], [(0, 0, 6, 4)]))
        for wall, kind in (((2, 1, 2, 1), "point"), ((2, 0, 2, 3), "straight"), ((1, 2, 5, 2), "straight"),
                           ((2, 1, 4, 3), "block"), ((0, 0, 6, 4), "block")):
            self.assertEqual(kind_of(wall), kind)
            self.come(wall)
        for wall in ((2, 1, 4, 3), (2, 1, 2, 1), (0, 0, 6, 4), (1, 2, 5, 2), (2, 0, 2, 3)):
            self.go(wall)
        self.assertEqual(self.kept.boxes_now(), [(0, 0, 6, 4)])

    def test_walls_that_change_no_box(self):
        room = (6, 6, ((2, 2, 4, 4),))
        for wall in ((2, 2, 4, 3), (3, 3, 3, 3), (2, 2, 2, 4), (4, 4, 4, 4), (0, 0, 0, 6), (0, 3, 0, 3), (6, 6, 6, 6),
                     (0, 6, 6, 6), (5, 0, 5, 0)):
            kept = Kept(room)
            self.assertEqual(kept.come(wall), ([], []))
            self.assertEqual(kept.looked(), 0)
            self.assertEqual(kept.room_now(), room_of(6, 6, [(2, 2, 4, 4), wall]))
            self.assertEqual(kept.go(wall), ([], []))
            self.assertEqual(kept.looked(), 0)
            self.assertEqual(kept.undo(), ([], []))
            self.assertEqual(kept.undo(), ([], []))
            self.assertIsNone(kept.undo())

    def test_a_wall_that_another_one_stands_for(self):
        self.keep((6, 6, ()))
        for wall in ((1, 1, 5, 5), (2, 2, 3, 3), (1, 1, 5, 2)):
            self.come(wall)
        for wall in ((1, 1, 5, 5), (2, 2, 3, 3), (1, 1, 5, 2)):
            self.go(wall)

    def test_filled_and_emptied(self):
        for room in FILLED[:4]:
            self.keep(room)
            for wall in room[2]:
                self.go(wall)
            self.assertEqual(self.kept.boxes_now(), [(0, 0, room[0], room[1])])
            for wall in reversed(room[2]):
                self.come(wall)
            self.assertEqual(self.kept.largest_now(), (0, []))

    def test_great_rooms(self):
        for room in great_rooms(3):
            self.keep(room)
            for wall in room[2][::4]:
                self.go(wall)
            for wall in room[2][::4]:
                self.come(wall)
        self.keep((GREAT, GREAT, ()))
        for wall in ((0, 0, GREAT, GREAT), (GREAT, GREAT, GREAT, GREAT), (1, 1, GREAT - 1, 1), (7, 0, 7, GREAT)):
            self.come(wall)
        self.go((0, 0, GREAT, GREAT))

    def test_new_boxes_are_free(self):
        for room in mixed_rooms(20):
            kept = Kept(room)
            for wall in all_walls(room[0], room[1])[::31]:
                if wall not in room[2]:
                    gone, new = kept.come(wall)
                    free = free_boxes(kept.room_now())
                    self.assertFalse([box for box in new if box not in free or box in gone])
                    kept.undo()


class Refusals(Deeds):
    def test_no_wall_of_such_a_room(self):
        self.keep((4, 3, ((1, 1, 2, 2),)))
        for wall in NO_WALLS:
            self.refused(NoWall, self.kept.come, wall)
            self.refused(NoWall, self.kept.go, wall)

    def test_taken(self):
        for room in (*mixed_rooms(10), room_of_thirty(GREAT // 10)):
            self.keep(room)
            for wall in room[2]:
                self.refused(Taken, self.kept.come, wall)
        self.keep((4, 3, ()))
        self.come((1, 1, 1, 1))
        self.refused(Taken, self.kept.come, (1, 1, 1, 1))
        self.come((1, 1, 1, 2))
        self.refused(Taken, self.kept.come, (1, 1, 1, 1))
        self.go((1, 1, 1, 1))
        self.refused(Taken, self.kept.come, (1, 1, 1, 2))
        self.come((1, 1, 1, 1))

    def test_walls_that_are_not_there(self):
        self.keep((4, 3, ((1, 1, 2, 2),)))
        for wall in ((1, 1, 1, 1), (2, 2, 2, 2), (1, 1, 2, 3), (0, 0, 4, 3), (1, 1, 1, 2)):
            self.refused(NoWall, self.kept.go, wall)
        self.go((1, 1, 2, 2))
        self.refused(NoWall, self.kept.go, (1, 1, 2, 2))
        self.undo()
        self.go((1, 1, 2, 2))

    def test_walls_undone(self):
        self.keep((4, 3, ()))
        self.come((1, 1, 1, 1))
        self.undo()
        self.refused(NoWall, self.kept.go, (1, 1, 1, 1))
        self.come((1, 1, 1, 1))
        self.refused(Taken, self.kept.come, (1, 1, 1, 1))

    def test_the_room_s_edges_are_in_it(self):
        self.keep((4, 3, ()))
        for wall in ((4, 3, 4, 3), (0, 0, 0, 0), (0, 0, 4, 3), (4, 0, 4, 3), (0, 3, 4, 3)):
            self.come(wall)

    def test_a_refused_deed_is_not_undone(self):
        self.keep((4, 3, ()))
        self.come((1, 1, 1, 1))
        self.refused(Taken, self.kept.come, (1, 1, 1, 1))
        self.refused(NoWall, self.kept.come, (5, 5, 5, 5))
        self.refused(NoWall, self.kept.go, (2, 2, 2, 2))
        self.undo()
        self.refused(NoWall, self.kept.go, (1, 1, 1, 1))
        self.undo_nothing()
        self.refused(NoWall, self.kept.come, (3, 0, 2, 0))
        self.undo_nothing()


class Undo(Deeds):
    def test_of_come_and_of_go(self):
        self.keep((6, 4, ((3, 3, 3, 3),)))
        self.come((2, 1, 2, 1))
        self.undo()
        self.go((3, 3, 3, 3))
        self.undo()
        self.undo_nothing()

    def test_the_pair_the_other_way_about(self):
        for room in mixed_rooms(30):
            kept = Kept(room)
            told = []
            for wall in all_walls(room[0], room[1])[::9]:
                told.append(kept.go(wall) if wall in kept.room_now()[2] else kept.come(wall))
            for gone, new in reversed(told):
                self.assertEqual(kept.undo(), (new, gone))
                self.assertEqual(kept.looked(), len(gone) + len(new))
            self.assertIsNone(kept.undo())
            self.assertEqual(kept.looked(), 0)
            self.assertEqual(kept.room_now(), room)

    def test_down_to_none_and_again_behind_new_deeds(self):
        self.keep((6, 4, ()))
        for walls in (((1, 1, 1, 1), (2, 2, 5, 2)), ((2, 0, 2, 4),), (), ((0, 0, 6, 4), (3, 3, 3, 3), (1, 1, 1, 1))):
            for wall in walls:
                self.come(wall)
            for _ in walls:
                self.undo()
            self.undo_nothing()
            self.undo_nothing()

    def test_an_undo_is_not_undone(self):
        self.keep((6, 4, ()))
        self.come((1, 1, 1, 1))
        self.come((2, 2, 2, 2))
        self.undo()
        self.come((3, 3, 3, 3))
        self.undo()
        self.undo()
        self.undo_nothing()

    def test_in_any_order(self):
        source = random.Random(15)
        for room in itertools.chain(mixed_rooms(12), FILLED[:4]):
            walls = all_walls(room[0], room[1])
            self.keep(room)
            self.at_random(source, lambda any_source: any_source.choice(walls), 60)
            while len(self.rooms) > 1:
                self.undo()
            self.undo_nothing()


class Looked(Deeds):
    def test_behind_each(self):
        kept = Kept((6, 4, ()))
        self.assertEqual(kept.looked(), 0)
        kept.come((2, 1, 2, 1))
        self.assertEqual(kept.looked(), 5)
        self.assertEqual(kept.looked(), 5)
        kept.come((2, 0, 2, 4))
        self.assertEqual(kept.looked(), 2)
        for deed, wall in ((kept.come, (2, 1, 2, 1)), (kept.come, (7, 1, 7, 1)), (kept.go, (1, 1, 1, 1))):
            self.assertRaises(BoxError, deed, wall)
            self.assertEqual(kept.looked(), 2)
        kept.undo()
        self.assertEqual(kept.looked(), 2)
        kept.undo()
        self.assertEqual(kept.looked(), 5)
        kept.undo()
        self.assertEqual(kept.looked(), 0)
        kept.come((0, 0, 0, 0))
        self.assertEqual(kept.looked(), 0)

    def test_asks_do_not_change_it(self):
        kept = Kept((6, 4, ()))
        kept.come((2, 1, 2, 1))
        kept.room_now(), kept.boxes_now(), kept.largest_now()
        self.assertEqual(kept.looked(), 5)


class ManyDeeds(Deeds):
    def test_two_hundred_deeds_and_as_many_undos(self):
        source = random.Random(200)

        def great_wall(source):
            a, b = source.randint(0, GREAT), source.randint(0, GREAT)
            c, d = (min(GREAT, low + source.choice((0, 0, GREAT // 20))) for low in (a, b))
            return (a, b, c, d)

        room = next(great_rooms(1))
        kept = Kept(room)
        rooms, told = [room], []
        for at in range(200):
            walls = kept.room_now()[2]
            gone = at % 4 == 3
            wall = source.choice(walls) if gone else great_wall(source)
            told.append(kept.go(wall) if gone else kept.come(wall))
            rooms.append((without_wall if gone else with_wall)(rooms[-1], wall))
            self.assertEqual(kept.room_now(), rooms[-1])
            if at % 20 == 0:
                self.assertEqual(kept.boxes_now(), wide_boxes(kept.room_now()))
        self.assertGreater(len(kept.room_now()[2]), 100)
        self.assertEqual(kept.boxes_now(), wide_by_splitting(kept.room_now()))
        for gone, new in reversed(told):
            rooms.pop()
            self.assertEqual(kept.undo(), (new, gone))
            self.assertEqual(kept.room_now(), rooms[-1])
        self.assertIsNone(kept.undo())
        self.assertEqual(kept.boxes_now(), wide_by_splitting(room))

    def test_more_than_thirty_walls(self):
        room = rising_row(30, 10)
        self.keep(room)
        for k in range(8):
            self.come((10 * k + 5, 300 - 10 * k, 10 * k + 5, 300 - 10 * k))
        self.assertEqual(len(self.kept.room_now()[2]), 38)
        for wall in room[2][:12]:
            self.go(wall)

    def test_two_hundred_deeds_on_a_small_room(self):
        self.keep((5, 5, ()))
        walls = all_walls(5, 5)
        self.at_random(random.Random(16), lambda source: source.choice(walls), 200)

    def test_two_of_one_room_by_turns(self):
        source = random.Random(17)
        room = room_of_thirty()
        pairs = [(Kept(room), []), (Kept(room), [])]
        for at in range(60):
            kept, mine = pairs[at % 2]
            wall = source.choice(all_walls(10, 10))
            if wall in kept.room_now()[2]:
                kept.go(wall)
                mine.append(wall)
            elif at % 5 == 4:
                if kept.undo() is not None:
                    mine.pop()
            else:
                kept.come(wall)
                mine.append(wall)
            for one, walls in pairs:
                there = {wall: True for wall in room[2]}
                for wall in walls:
                    there[wall] = not there.get(wall, False)
                now = room_of(10, 10, [wall for wall in there if there[wall]])
                self.assertEqual(one.room_now(), now)
                self.assertEqual(one.boxes_now(), wide_by_splitting(now))
        for kept, walls in pairs:
            for _ in walls:
                kept.undo()
            self.assertIsNone(kept.undo())
            self.assertEqual(kept.boxes_now(), wide_by_splitting(room))


class Own(Deeds):
    def spoil(self, answer):
        for one in lists_in(answer):
            one.append("changed")
            one.reverse()

    def test_told_lists_are_the_asker_s_own(self):
        for room in itertools.chain(mixed_rooms(20), FILLED[:3]):
            kept = Kept(room)
            tells_own_lists(self, kept.boxes_now)
            tells_own_lists(self, kept.largest_now)

    def test_lists_told_of_deeds_may_be_changed(self):
        source = random.Random(18)
        for room in mixed_rooms(12):
            kept, other = Kept(room), Kept(room)
            walls = all_walls(room[0], room[1])
            for _ in range(30):
                wall = source.choice(walls)
                if source.randint(0, 3) == 0:
                    answers = (kept.undo(), other.undo())
                elif wall in kept.room_now()[2]:
                    answers = (kept.go(wall), other.go(wall))
                else:
                    answers = (kept.come(wall), other.come(wall))
                self.assertEqual(*answers)
                for one in answers[0] or ():
                    one.append("changed")
                self.spoil(kept.boxes_now())
                self.spoil(kept.largest_now())
                self.assertEqual(kept.boxes_now(), other.boxes_now())
                self.assertEqual(kept.largest_now(), other.largest_now())
                self.assertEqual(kept.looked(), other.looked())

    def test_no_two_lists_are_one(self):
        kept = Kept((6, 4, ()))
        told = []
        for deed, *wall in ((kept.come, (2, 1, 2, 1)), (kept.come, (0, 0, 0, 0)), (kept.go, (0, 0, 0, 0)),
                            (kept.go, (2, 1, 2, 1)), (kept.undo,), (kept.undo,), (kept.undo,), (kept.undo,),
                            (kept.boxes_now,), (kept.boxes_now,), (kept.largest_now,), (kept.largest_now,)):
            told.append(deed(*wall))
        lists = lists_in(told)[1:]
        self.assertEqual(len({id(one) for one in lists}), len(lists))
        self.assertEqual(len(lists), 8 * 2 + 4)

    def test_a_list_told_ahead_is_not_changed_by_a_later_deed(self):
        kept = Kept((6, 4, ()))
        boxes, (area, greatest) = kept.boxes_now(), kept.largest_now()
        gone, new = kept.come((2, 1, 2, 1))
        kept.come((4, 1, 4, 1))
        kept.undo()
        kept.undo()
        kept.come((3, 3, 3, 3))
        self.assertEqual(boxes, [(0, 0, 6, 4)])
        self.assertEqual((area, greatest), (24, [(0, 0, 6, 4)]))
        self.assertEqual((gone, new), ([(0, 0, 6, 4)], [(0, 0, 2, 4), (0, 0, 6, 1), (0, 1, 6, 4), (2, 0, 6, 4)]))

    def test_the_room_handed_in_stays_as_it_was(self):
        room = (6, 4, ((2, 1, 2, 1),))
        kept = Kept(room)
        kept.come((3, 3, 3, 3))
        kept.go((2, 1, 2, 1))
        self.assertEqual(room, (6, 4, ((2, 1, 2, 1),)))
        self.assertEqual(Kept(room).room_now(), room)

    def test_told_rooms_are_tuples_all_through(self):
        kept = Kept((6, 4, ()))
        kept.come((3, 3, 3, 3))
        self.assertEqual(kept.room_now(), (6, 4, ((3, 3, 3, 3),)))
        self.assertEqual([type(part) for part in (kept.room_now(), kept.room_now()[2], kept.room_now()[2][0])],
                         [tuple] * 3)


if __name__ == "__main__":
    unittest.main()
