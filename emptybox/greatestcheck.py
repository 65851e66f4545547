"""A small checker of papers that tell the greatest area of a free box and a tree that shows it.

A tree is of a part of the room, which is a box: it shows that no free box in this part has a greater area than told.
"""

from emptybox.rooms import area_of, is_box, is_free, is_number, parts_around, wall_lies_in


def is_split(room, part, thing):
    """Whether it's ("wall", k, trees), wall k in the part, with something for a tree just where a part is left."""
    if not isinstance(thing, tuple) or len(thing) != 3 or thing[0] != "wall":
        return False
    number, trees = thing[1:]
    if not is_number(number) or not 0 <= number < len(room[2]) or not wall_lies_in(room[2][number], part):
        return False
    if not isinstance(trees, tuple) or len(trees) != 4:
        return False
    parts = parts_around(part, room[2][number])
    return all((one is None) == (tree is None) for one, tree in zip(parts, trees))


def is_tree(room, area, thing):
    """Whether it's a tree, for this area, of all of the room."""
    # What is still to be looked at stands in a list, for a tree may be as deep as there are walls.
    waiting = [((0, 0, room[0], room[1]), thing)]
    while waiting:
        part, tree = waiting.pop()
        if tree == ("small",):
            if area_of(part) > area:
                return False
        elif is_split(room, part, tree):
            parts = parts_around(part, room[2][tree[1]])
            waiting.extend([(one, below) for one, below in zip(parts, tree[2]) if one is not None])
        else:
            return False
    return True


def has_area(room, box, area):
    """Whether it's a free box of this area, or None where that is nought."""
    if box is None:
        return area == 0
    return is_box(room, box) and is_free(room, box) and area_of(box) == area


def shows_greatest(room, thing):
    """Whether it's a tuple (area, box, tree): a free box of this area, and a tree that none is greater."""
    if not isinstance(thing, tuple) or len(thing) != 3:
        return False
    area, box, tree = thing
    return is_number(area) and has_area(room, box, area) and is_tree(room, area, tree)
