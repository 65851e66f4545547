"""Rooms, the walls in them, and boxes."""


def is_number(thing):
    # Python counts True and False among the whole numbers; here they are none.
    return isinstance(thing, int) and not isinstance(thing, bool)


def is_four_numbers(thing):
    return isinstance(thing, tuple) and len(thing) == 4 and all(is_number(part) for part in thing)


def is_wall(wide, high, thing):
    """Whether it's a wall of a room this wide and high."""
    if not is_four_numbers(thing):
        return False
    a, b, c, d = thing
    return 0 <= a <= c <= wide and 0 <= b <= d <= high


def rises(things):
    return all(things[k] < things[k + 1] for k in range(len(things) - 1))


def is_room(thing):
    """Whether it's a room, however great."""
    if not isinstance(thing, tuple) or len(thing) != 3:
        return False
    wide, high, walls = thing
    if not is_number(wide) or not is_number(high) or wide < 1 or high < 1:
        return False
    if not isinstance(walls, tuple):
        return False
    # Only walls can be put in order, so they are looked at first.
    return all(is_wall(wide, high, wall) for wall in walls) and rises(walls)


def is_box(room, thing):
    """Whether it's a box of that room."""
    if not is_four_numbers(thing):
        return False
    left, low, right, top = thing
    return 0 <= left < right <= room[0] and 0 <= low < top <= room[1]


def room_of(wide, high, walls):
    """The room with these walls, which may stand in any order and be alike."""
    return (wide, high, tuple(sorted(set(walls))))


def kind_of(wall):
    """The word for it: "point", "straight" or "block"."""
    a, b, c, d = wall
    if a == c and b == d:
        return "point"
    if a == c or b == d:
        return "straight"
    return "block"


def wall_lies_in(wall, box):
    a, b, c, d = wall
    left, low, right, top = box
    return left < c and a < right and low < d and b < top


def walls_at(room, box):
    """The rising list of all walls that lie in the box."""
    return [wall for wall in room[2] if wall_lies_in(wall, box)]


def walls_in(room, box):
    """The rising list of the numbers of all walls that lie in the box."""
    return [number for number, wall in enumerate(room[2]) if wall_lies_in(wall, box)]


def is_free(room, box):
    """Whether none of the room's walls lies in the box."""
    return not walls_in(room, box)


def area_of(box):
    left, low, right, top = box
    return (right - left) * (top - low)


def lies_in(one, other):
    """Whether all of one box is in the other."""
    return other[0] <= one[0] and other[1] <= one[1] and one[2] <= other[2] and one[3] <= other[3]


def in_both(one, other):
    """The box of all that two have in common, None where that has no width or no height."""
    left, low = max(one[0], other[0]), max(one[1], other[1])
    right, top = min(one[2], other[2]), min(one[3], other[3])
    if left < right and low < top:
        return (left, low, right, top)
    return None


def parts_around(box, wall):
    """What of a box is left of a wall in it, below, right of and above it: each a box, or None of nothing."""
    left, low, right, top = box
    a, b, c, d = wall
    parts = [(left, low, a, top), (left, low, right, b), (c, low, right, top), (left, d, right, top)]
    return [in_both(box, part) for part in parts]
