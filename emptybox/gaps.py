"""Boxes with a gap to all walls."""

from emptybox.rooms import room_of
from emptybox.widening import check_free


def wall_with_gap(room, wall, gap):
    """The wall made greater by gap to all four sides, as far as the room goes."""
    a, b, c, d = wall
    return (max(0, a - gap), max(0, b - gap), min(room[0], c + gap), min(room[1], d + gap))


def with_gap(room, gap):
    """The room with all its walls made greater by gap."""
    return room_of(room[0], room[1], [wall_with_gap(room, wall, gap) for wall in room[2]])


def gap_between(wall, box):
    """How far the wall is from the box, across or up, whichever is more."""
    a, b, c, d = wall
    left, low, right, top = box
    return max(left - c, a - right, low - d, b - top)


def gap_of(room, box):
    """The greatest gap by which a free box is still free, None where there are no walls."""
    check_free(room, box)
    return min([gap_between(wall, box) for wall in room[2]], default=None)
