"""How many free boxes and wide boxes there are, of which sizes, and where they stand."""

from emptybox.boxes import cut_gaps, heights_of, wide_boxes
from emptybox.rooms import area_of, is_free


def areas(room):
    """The rising list of pairs: an area, and how many wide boxes have it."""
    counts = {}
    for box in wide_boxes(room):
        area = area_of(box)
        counts[area] = counts.get(area, 0) + 1
    return sorted(counts.items())


def fits(room, wide, high):
    """The rising list of the pairs (left, low) of all free boxes of that size."""
    return [(left, low) for left in range(room[0] - wide + 1) for low in range(room[1] - high + 1)
            if is_free(room, (left, low, left + wide, low + high))]


def count_in_gap(gap):
    """How many pairs of a low and a top side there are in the gap."""
    far = gap[1] - gap[0]
    return far * (far + 1) // 2


def count_from(room, left):
    """How many free boxes have this left side."""
    wide, high, walls = room
    beyond = [wall for wall in walls if wall[2] > left]
    gaps = [(0, high)]
    many = 0
    for right in range(left + 1, wide + 1):
        # A wall stays in the way once the right side has come past its beginning.
        gaps = cut_gaps(gaps, heights_of([wall for wall in beyond if max(wall[0], left) == right - 1]))
        many += sum([count_in_gap(gap) for gap in gaps])
    return many


def count_free(room):
    """How many free boxes there are in all."""
    return sum([count_from(room, left) for left in range(room[0])])


def sizes_of(room):
    """The rising list of the sizes of free boxes but for those that another one is at least as wide and high as."""
    # A free box of such a size can't be made wider.
    sizes = sorted({(right - left, top - low) for left, low, right, top in wide_boxes(room)})
    return [size for size in sizes
            if not any(size != other and size[0] <= other[0] and size[1] <= other[1] for other in sizes)]
