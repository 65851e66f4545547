"""All wide boxes, and the greatest of them.

From each left side that something bounds, the right side goes out from wall to wall. Between the walls that it
has come past there are gaps (low, top), no two of which have any height in common: a gap that can go no further
out is a box.
"""

from emptybox.rooms import area_of, walls_at


def left_sides(walls, whole):
    """The rising list of all left sides that the whole, or a wall, can bound."""
    return sorted(set([whole[0]] + [wall[2] for wall in walls if wall[2] < whole[2]]))


def right_sides(walls, whole, left):
    """All right sides beyond the left one that the whole, or a wall, can bound, each with what bounds it."""
    found = {whole[2]: [whole]}
    for wall in walls:
        if wall[0] > left:
            found.setdefault(wall[0], []).append(wall)
    return found


def heights_of(walls):
    return [(wall[1], wall[3]) for wall in walls]


def cut_gaps(gaps, spans):
    """The rising list of the gaps that spans, in any order, leave of rising gaps."""
    for begin, end in spans:
        before = [(low, min(top, begin)) for low, top in gaps]
        behind = [(max(low, end), top) for low, top in gaps]
        # A span that isn't at a gap leaves all of it on one side, and nothing on the other one.
        gaps = [(low, top) for low, top in before + behind if low < top]
    return gaps


def is_stopped(gap, walls):
    """Whether one of these walls is at the gap's height."""
    low, top = gap
    return any(low < wall[3] and wall[1] < top for wall in walls)


def boxes_from(walls, whole, left, inner):
    """All boxes of this left side that can't be made wider within the whole, and in which inner lies."""
    at_left = [whole] if left == whole[0] else [wall for wall in walls if wall[2] == left]
    beyond = [wall for wall in walls if wall[2] > left]
    sides = right_sides(beyond, whole, left)
    gaps = cut_gaps([(whole[1], whole[3])], heights_of([wall for wall in beyond if wall[0] <= left]))
    found = []
    for right in sorted(sides):
        # Gaps grow less only: one that lacks a bound at the left, or inner, will go on lacking it.
        gaps = [gap for gap in gaps if is_stopped(gap, at_left) and is_stopped(gap, [inner])]
        if right > inner[0]:
            found.extend([(left, gap[0], right, gap[1]) for gap in gaps if is_stopped(gap, sides[right])])
        gaps = cut_gaps(gaps, heights_of(sides[right]))
    return found


def boxes_over(room, whole, inner):
    """The rising list of all free boxes that lie in a box, can't be made wider within it, and in which inner lies.

    Inner is a wall, which needn't be the room's.
    """
    walls = walls_at(room, whole)
    lefts = [left for left in left_sides(walls, whole) if left < inner[2]]
    return sorted([box for left in lefts for box in boxes_from(walls, whole, left, inner)])


def boxes_within(room, whole):
    """The rising list of all free boxes that lie in a box and can't be made wider within it."""
    # Taken for a wall, the whole lies in each of them.
    return boxes_over(room, whole, whole)


def wide_boxes(room):
    """The rising list of all wide boxes."""
    return boxes_within(room, (0, 0, room[0], room[1]))


def greatest_of(boxes):
    """The greatest area of these, and all of them that have it; (0, []) without any."""
    area = max([area_of(box) for box in boxes], default=0)
    return (area, [box for box in boxes if area_of(box) == area])


def first_greatest(boxes):
    """The greatest area of these, and the first box that has it; (0, None) without any."""
    area, greatest = greatest_of(boxes)
    return (area, min(greatest, default=None))


def largest(room):
    """The greatest area of a free box, and the rising list of all wide boxes that have it."""
    return greatest_of(wide_boxes(room))
