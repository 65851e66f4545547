"""Rooms to test with, and slow answers found by other means than the program's."""

import copy
import functools
import itertools
import random

from emptybox.errors import BoxError, NotFree

GREAT = 10 ** 6


def all_walls(wide, high):
    """Each wall of such a room, rising."""
    return [(a, b, c, d)
            for a in range(wide + 1) for b in range(high + 1)
            for c in range(a, wide + 1) for d in range(b, high + 1)]


def all_boxes(wide, high):
    """Each box of such a room, rising."""
    return [wall for wall in all_walls(wide, high) if wall[0] < wall[2] and wall[1] < wall[3]]


def small_rooms():
    """All rooms of some small sizes with at most two walls."""
    for wide, high in ((1, 1), (2, 1), (1, 2), (2, 2)):
        for many in range(3):
            for walls in itertools.combinations(all_walls(wide, high), many):
                yield (wide, high, walls)


def mixed_rooms(many=60, most_walls=8):
    """Rooms up to 7 wide and high with small walls, the same ones each time."""
    source = random.Random(20)
    for at in range(many):
        wide, high = source.randint(1, 7), source.randint(1, 7)
        walls = [wall for wall in all_walls(wide, high) if wall[2] - wall[0] + wall[3] - wall[1] < 4]
        yield (wide, high, tuple(sorted(source.sample(walls, min(len(walls), at % (most_walls + 1))))))


def some_rooms():
    """All the small rooms, then the mixed ones."""
    yield from small_rooms()
    yield from mixed_rooms()


def great_rooms(many=6):
    """Rooms as great as may be with 30 walls, the same ones each time."""
    source = random.Random(6)
    for at in range(many):
        walls = set()
        while len(walls) < 30:
            a, b = source.randint(0, GREAT), source.randint(0, GREAT)
            c, d = (min(GREAT, low + source.choice((0, source.randint(0, GREAT // (2 + 4 * at))))) for low in (a, b))
            walls.add((a, b, c, d))
        yield (GREAT, GREAT, tuple(sorted(walls)))


def rising_row(many, step=1):
    """A room with points on a rising row, one step from each other and from the room's ends."""
    size = (many + 1) * step
    return (size, size, tuple((k, k, k, k) for k in range(step, size, step)))


def falling_row(many, step=1):
    """The same with a falling row."""
    size = (many + 1) * step
    return (size, size, tuple((k, size - k, k, size - k) for k in range(step, size, step)))


def room_of_thirty(times=1):
    """A room with 30 walls, ten of each kind, made greater by times."""
    points = [(2 * k % 11, 3 * k % 11, 2 * k % 11, 3 * k % 11) for k in range(10)]
    straight = [(k, 4, k, 6) if k % 2 else (4, k, 6, k) for k in range(10)]
    blocks = [(k, 9 - k, k + 1, 10 - k) for k in range(10)]
    walls = sorted(points + straight + blocks)
    return (10 * times, 10 * times, tuple(tuple(times * part for part in wall) for wall in walls))


def room_of_forty():
    """A room 40 wide and high with 30 walls."""
    walls = {(7 * k % 39, 11 * k % 37, 7 * k % 39 + k % 3 // 2, 11 * k % 37 + k % 4) for k in range(30)}
    return (40, 40, tuple(sorted(walls)))


# Rooms in which no box is free.
FILLED = ((1, 1, ((0, 0, 1, 1),)), (3, 2, ((0, 0, 3, 2),)), (3, 2, ((0, 0, 2, 2), (1, 0, 3, 2))),
          (4, 4, ((0, 0, 2, 4), (2, 0, 4, 2), (2, 2, 4, 4), (3, 3, 3, 3))), (40, 40, ((0, 0, 40, 40),)))
GREAT_FILLED = (GREAT, GREAT, ((0, 0, GREAT, GREAT),))


def scaled(box, times):
    return tuple(times * part for part in box)


def half_steps(low, high, edges):
    """The places from low to high, in half steps, with its ends or without."""
    return range(2 * low, 2 * high + 1) if edges else range(2 * low + 1, 2 * high)


@functools.lru_cache(maxsize=None)
def is_in(wall, box):
    """Whether a wall lies in a box: some place of it is inside, not at a side."""
    across = set(half_steps(wall[0], wall[2], True)) & set(half_steps(box[0], box[2], False))
    up = set(half_steps(wall[1], wall[3], True)) & set(half_steps(box[1], box[3], False))
    return bool(across and up)


def numbers_in(room, box):
    return [k for k in range(len(room[2])) if is_in(room[2][k], box)]


def cells(box):
    """The 1 by 1 boxes that a box is made of, by their lower left corners."""
    return {(x, y) for x in range(box[0], box[2]) for y in range(box[1], box[3])}


def area_by_cells(box):
    return len(cells(box))


def step_out(box, side, far):
    """The box with one side moved out."""
    left, low, right, top = box
    return ((left - far, low, right, top), (left, low - far, right, top),
            (left, low, right + far, top), (left, low, right, top + far))[side]


def fits_in_room(room, box):
    return box[0] >= 0 and box[1] >= 0 and box[2] <= room[0] and box[3] <= room[1]


def reach_by_steps(room, box, side):
    """How far a side can be moved out, tried step by step."""
    far = 0
    while True:
        wider = step_out(box, side, far + 1)
        if not fits_in_room(room, wider) or numbers_in(room, wider):
            return far
        far += 1


def free_boxes(room):
    """All free boxes, rising, by trying each box."""
    return [box for box in all_boxes(room[0], room[1]) if not numbers_in(room, box)]


def bounds_by_steps(room, box):
    """What bounds each side, by moving each out by one."""
    ends = (box[0] == 0, box[1] == 0, box[2] == room[0], box[3] == room[1])
    return [[-1] * ends[side] + numbers_in(room, step_out(box, side, 1)) for side in range(4)]


def wide_by_steps(room):
    """All wide boxes, rising, by trying each free box."""
    return [box for box in free_boxes(room) if all(bounds_by_steps(room, box))]


def is_beside(box, wall):
    """Whether a wall isn't in a box, however great."""
    return box[2] <= wall[0] or wall[2] <= box[0] or box[3] <= wall[1] or wall[3] <= box[1]


def four_beside(box, wall):
    """What of a box is left of a wall in it, below, right of and above it, None where that is nothing."""
    left, low, right, top = box
    a, b, c, d = wall
    parts = [(left, low, a, top), (left, low, right, b), (c, low, right, top), (left, d, right, top)]
    return [part if part[0] < part[2] and part[1] < part[3] else None for part in parts]


def parts_beside(box, wall):
    """The greatest parts of a box that a wall leaves free: all of it where the wall isn't in it."""
    return [box] if is_beside(box, wall) else [part for part in four_beside(box, wall) if part]


def tree_holds(room, part, area, tree):
    """Whether a tree, of what may be a tree by its form, shows that nothing free in a part is greater than area."""
    if tree == ("small",):
        return (part[2] - part[0]) * (part[3] - part[1]) <= area
    word, number, trees = tree
    if word != "wall" or number not in range(len(room[2])) or is_beside(part, room[2][number]) or len(trees) != 4:
        return False
    return all(one is below is None or (one and below and tree_holds(room, one, area, below))
               for one, below in zip(four_beside(part, room[2][number]), trees))


def is_within(one, other):
    return other[0] <= one[0] and one[2] <= other[2] and other[1] <= one[1] and one[3] <= other[3]


def not_within_another(boxes):
    """Those of unlike boxes that don't lie in another one of them, rising."""
    unlike = set(boxes)
    return sorted(one for one in unlike if not any(one != other and is_within(one, other) for other in unlike))


@functools.lru_cache(maxsize=256)
def parted(room, window):
    """The window parted by one wall after the other, but for what lies in another part."""
    boxes = [window]
    for wall in room[2]:
        boxes = not_within_another(part for box in boxes for part in parts_beside(box, wall))
    return tuple(boxes)


def wide_by_splitting(room, window=None):
    """All wide boxes, rising, however great the room: all of it, or a window, parted by its walls."""
    return list(parted(room, window or (0, 0, room[0], room[1])))


def first_of_the_greatest(boxes):
    """The greatest area, and the first box that has it."""
    found = [((right - left) * (top - low), (left, low, right, top)) for left, low, right, top in boxes]
    area = max([area for area, box in found], default=0)
    return (area, min([box for one, box in found if one == area], default=None))


def nested(depth, of=tuple, inner=0):
    """A thing that many tuples or lists deep."""
    for _ in range(depth):
        inner = of([inner])
    return inner


def odd_things():
    """Things of all sorts that are no number, no wall, no box and no room."""
    return [True, False, None, "", "room", "1", "0011", [], [[]], (), ((),), ("a", "b", "c"),
            [0, 0, 1, 1], [1, 1, ()], (0,), (0, 0), (0, 0, 0), (0, 0, 0, 0, 0), (None,) * 4, (None,) * 3,
            ("0", "0", "1", "1"), (False, False, True, True), (True, True, ()),
            ((0, 0, 1, 1),) * 4, ([], [], [], []), nested(30), nested(30, list), nested(30, tuple, "a"),
            (nested(29), 1, ()), (1, nested(29, list), ()), (1, 1, nested(29)), (1, 1, nested(29, list)),
            (nested(29), nested(29), nested(29), nested(29)), (0, 0, 1, nested(29, list))]


def with_part(thing, at, part):
    """A tuple with one part put in another one's stead."""
    return thing[:at] + (part,) + thing[at + 1:]


def ask_keeping(test, ask, *told):
    """What ask tells, and that it changed nothing that it was handed."""
    before = copy.deepcopy(told)
    answer = ask(*told)
    test.assertEqual(told, before)
    return answer


def refuses_not_free(test, wall, ask, *told):
    """That a box is refused with this wall's number, and that nothing handed in is changed by it."""
    with test.assertRaises(BoxError) as caught:
        ask_keeping(test, ask, *told)
    test.assertIs(type(caught.exception), NotFree)
    test.assertIs(type(caught.exception.wall), int)
    test.assertEqual(caught.exception.wall, wall, told)


def boxes_not_free(room):
    """All boxes in which a wall lies, each with the first such wall's number."""
    return [(box, numbers_in(room, box)[0]) for box in all_boxes(room[0], room[1]) if numbers_in(room, box)]


# Boxes of one room in which walls lie, each with the first wall's number.
BLOCKED_ROOM = (9, 9, ((0, 0, 1, 1), (2, 2, 2, 2), (3, 3, 3, 7), (5, 5, 8, 8)))
BLOCKED_BOXES = (((0, 0, 9, 9), 0), ((1, 1, 9, 9), 1), ((2, 2, 9, 9), 2), ((3, 3, 9, 9), 3))


def lists_in(answer):
    """Each list in an answer, as often as it stands there."""
    inner = [one for part in answer for one in lists_in(part)] if isinstance(answer, (list, tuple)) else []
    return [answer] * isinstance(answer, list) + inner


def tells_own_lists(test, ask, *told):
    """That no list is told twice, and that a change of told lists changes no other answer."""
    first = ask(*told)
    kept = copy.deepcopy(first)
    again = ask(*told)
    lists = lists_in(first) + lists_in(again)
    test.assertEqual(len({id(one) for one in lists}), len(lists))
    for one in lists_in(first):
        one.append("changed")
        one.reverse()
    test.assertEqual(again, kept)
    test.assertEqual(ask(*told), kept)
