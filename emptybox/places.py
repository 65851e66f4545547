"""Wide boxes around boxes and places, by the walls that bound them, and points with nothing between."""

from emptybox.boxes import wide_boxes
from emptybox.rooms import is_free, kind_of, lies_in
from emptybox.widening import bounds_of


def around(room, box):
    """The rising list of all wide boxes in which the box lies."""
    return [wide for wide in wide_boxes(room) if lies_in(box, wide)]


def at_place(room, x, y):
    """The rising list of all wide boxes that have this place in them, at a side or at a corner."""
    return [box for box in wide_boxes(room) if box[0] <= x <= box[2] and box[1] <= y <= box[3]]


def bounds_some_side(room, box, number):
    return any(number in bounds for bounds in bounds_of(room, box))


def bounded_by(room, i, j):
    """The rising list of all wide boxes some side of which wall i bounds, and some side, maybe the same, wall j."""
    return [box for box in wide_boxes(room) if bounds_some_side(room, box, i) and bounds_some_side(room, box, j)]


def is_clear_between(room, one, other):
    """Whether two points are opposite corners of a free box."""
    left, right = min(one[0], other[0]), max(one[0], other[0])
    low, top = min(one[1], other[1]), max(one[1], other[1])
    return left < right and low < top and is_free(room, (left, low, right, top))


def clear_pairs(room):
    """The rising list of the pairs of points' numbers that have a free box between them."""
    walls = room[2]
    points = [number for number, wall in enumerate(walls) if kind_of(wall) == "point"]
    return [(i, j) for i in points for j in points if i < j and is_clear_between(room, walls[i], walls[j])]
