"""Free squares: boxes as wide as high."""

from emptybox.boxes import wide_boxes
from emptybox.counting import fits


def squares_of(room, side):
    """The rising list of the pairs (left, low) of all free squares of that side."""
    return fits(room, side, side)


def largest_square(room):
    """The greatest side of a free square, and the pairs (left, low) of all of them; (0, []) without any."""
    # Each free square lies in a wide box, and is no wider and no higher than that.
    side = max([min(right - left, top - low) for left, low, right, top in wide_boxes(room)], default=0)
    return (side, squares_of(room, side) if side else [])
