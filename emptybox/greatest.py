"""The greatest area of a free box, with a tree that shows that none is greater."""

from emptybox.boxes import first_greatest, wide_boxes
from emptybox.rooms import area_of, parts_around, walls_in


def left_over(room, part, number, area):
    """How many walls lie in the parts around this wall that are still too great, each counted in each part."""
    parts = parts_around(part, room[2][number])
    return sum([len(walls_in(room, one)) for one in parts if one is not None and area_of(one) > area])


def tree_of(room, part, area):
    """A tree that shows that no free box in this part has a greater area."""
    if part is None:
        return None
    if area_of(part) <= area:
        return ("small",)
    # With a wall that leaves little to be looked at the tree stays small.
    number = min(walls_in(room, part), key=lambda one: left_over(room, part, one, area))
    trees = tuple(tree_of(room, one, area) for one in parts_around(part, room[2][number]))
    return ("wall", number, trees)


def greatest_paper(room):
    """The tuple of the greatest area, the first wide box that has it (None of none), and a tree for it."""
    area, box = first_greatest(wide_boxes(room))
    return (area, box, tree_of(room, (0, 0, room[0], room[1]), area))
