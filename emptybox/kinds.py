"""Wide boxes by the kinds of what bounds their sides."""

from emptybox.boxes import wide_boxes
from emptybox.rooms import kind_of
from emptybox.widening import bounds_of

# Where several bound one side, the kind that stands first here is told.
KINDS = ("block", "straight", "point")


def kind_of_side(room, bounds):
    """The word for a side that these bound."""
    if -1 in bounds:
        return "room"
    found = [kind_of(room[2][number]) for number in bounds]
    return [kind for kind in KINDS if kind in found][0]


def kinds_of(room, box):
    """The tuple of a word for each side of a wide box."""
    return tuple(kind_of_side(room, bounds) for bounds in bounds_of(room, box))


def by_kinds(room):
    """The rising list of pairs: words, and how many wide boxes have these."""
    counts = {}
    for box in wide_boxes(room):
        words = kinds_of(room, box)
        counts[words] = counts.get(words, 0) + 1
    return sorted(counts.items())


def free_sides(room):
    """The rising list of all wide boxes no side of which is at the room's end."""
    return [box for box in wide_boxes(room) if "room" not in kinds_of(room, box)]
