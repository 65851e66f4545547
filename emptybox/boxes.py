"""All wide boxes, and the greatest of them.

From each left side that something bounds, the right side goes out from wall to wall. Between the walls that it
has come past there are gaps (low, top), no two of which have any height in common: a gap that can go no further
out is a box.
"""

from emptybox.rooms import area_of, walls_in


def left_sides(walls, whole):
    """The rising list of all left sides that the whole, or a wall, can bound."""
    return sorted(set([whole[0]] + [wall[2] for wall in walls if wall[2] < whole[2]]))


def right_sides(walls, whole, left):
    """The rising list of all right sides, beyond the left one, that the whole, or a wall, can bound."""
    return sorted(set([whole[2]] + [wall[0] for wall in walls if wall[0] > left]))


def cut_gaps(gaps, walls):
    """The gaps that walls leave of gaps."""
    for wall in walls:
        below = [(low, min(top, wall[1])) for low, top in gaps]
        above = [(max(low, wall[3]), top) for low, top in gaps]
        # A wall that isn't at a gap's height leaves all of it on one side, and nothing on the other one.
        gaps = [(low, top) for low, top in below + above if low < top]
    return gaps


def is_stopped(gap, walls):
    """Whether one of these walls is at the gap's height."""
    low, top = gap
    return any(low < wall[3] and wall[1] < top for wall in walls)


def boxes_from(walls, whole, left):
    """All boxes of this left side that can't be made wider within the whole."""
    at_left = [wall for wall in walls if wall[2] == left]
    beyond = [wall for wall in walls if wall[2] > left]
    gaps = cut_gaps([(whole[1], whole[3])], [wall for wall in beyond if wall[0] <= left])
    found = []
    for right in right_sides(beyond, whole, left):
        at_right = [wall for wall in beyond if wall[0] == right]
        for gap in gaps:
            left_stays = left == whole[0] or is_stopped(gap, at_left)
            right_stays = right == whole[2] or is_stopped(gap, at_right)
            if left_stays and right_stays:
                found.append((left, gap[0], right, gap[1]))
        gaps = cut_gaps(gaps, at_right)
    return found


def boxes_within(room, whole):
    """The rising list of all free boxes that lie in a box and can't be made wider within it."""
    walls = [room[2][number] for number in walls_in(room, whole)]
    return sorted([box for left in left_sides(walls, whole) for box in boxes_from(walls, whole, left)])


def wide_boxes(room):
    """The rising list of all wide boxes."""
    return boxes_within(room, (0, 0, room[0], room[1]))


def largest(room):
    """The greatest area of a free box, and the rising list of all wide boxes that have it."""
    boxes = wide_boxes(room)
    area = max([area_of(box) for box in boxes], default=0)
    return (area, [box for box in boxes if area_of(box) == area])
