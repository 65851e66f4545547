"""How far the sides of a free box can be moved out, and what bounds them.

Sides are numbered: 0 left, 1 low, 2 right, 3 top.
"""

from emptybox.errors import NotFree
from emptybox.rooms import walls_in


def check_free(room, box):
    inside = walls_in(room, box)
    if inside:
        raise NotFree(inside[0])


def moved_out(box, side, far):
    # Left and low go out towards nought, right and top away from it.
    place = box[side] - far if side < 2 else box[side] + far
    return box[:side] + (place,) + box[side + 1:]


def far_to_end(room, box, side):
    """How far that side is from the room's end."""
    return box[side] if side < 2 else room[side - 2] - box[side]


def far_to_wall(wall, box, side):
    """How far that side is from a wall out there."""
    return box[side] - wall[side + 2] if side < 2 else wall[side - 2] - box[side]


def reach_of(room, box, side):
    end = far_to_end(room, box, side)
    # The box is free, so what lies in it once it goes to the room's end is all beyond this side.
    ahead = walls_in(room, moved_out(box, side, end))
    return min([end] + [far_to_wall(room[2][number], box, side) for number in ahead])


def bounds_of_side(room, box, side):
    ends = [-1] if far_to_end(room, box, side) == 0 else []
    return ends + walls_in(room, moved_out(box, side, 1))


def reaches(room, box):
    """The tuple of how far each side can be moved out, the others staying."""
    check_free(room, box)
    return tuple(reach_of(room, box, side) for side in range(4))


def is_wide(room, box):
    """Whether no side can be moved out."""
    return reaches(room, box) == (0, 0, 0, 0)


def bounds_of(room, box):
    """The list of what bounds each side: -1 for the room's end, and numbers of walls."""
    check_free(room, box)
    return [bounds_of_side(room, box, side) for side in range(4)]


def widened(room, box, order):
    """The wide box that comes of moving out each side in this order as far as can be."""
    check_free(room, box)
    wider = box
    for side in order:
        wider = moved_out(wider, side, reach_of(room, wider, side))
    return wider
