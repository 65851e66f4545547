"""Free stretches of rows and columns, and the greatest boxes over stretches of the room."""

from emptybox.boxes import cut_gaps, first_greatest, heights_of, wide_boxes
from emptybox.rooms import area_of, in_both, walls_at


def row_stretches(room, y):
    """The rising list of the pairs (left, right) of all free boxes of this row that can't be made longer."""
    walls = walls_at(room, (0, y, room[0], y + 1))
    return cut_gaps([(0, room[0])], [(wall[0], wall[2]) for wall in walls])


def column_stretches(room, x):
    """The rising list of the pairs (low, top) of all free boxes of this column that can't be made longer."""
    walls = walls_at(room, (x, 0, x + 1, room[1]))
    return cut_gaps([(0, room[1])], heights_of(walls))


def rise_over(room, left, right, low):
    """The greatest top of a free box of these three sides, None where there is none."""
    walls = walls_at(room, (left, low, right, room[1]))
    top = min([room[1]] + [wall[1] for wall in walls])
    return top if top > low else None


def greatest_cut(boxes, window):
    """The greatest area of what boxes have in common with a window, and the first such box that has it."""
    # What is greatest of these lies in no other one, so it can't be made wider within the window.
    cut = [in_both(box, window) for box in boxes]
    return first_greatest([box for box in cut if box is not None])


def greatest_at(boxes, x):
    """The greatest area of those of the boxes that go over this column."""
    return max([area_of(box) for box in boxes if box[0] <= x < box[2]], default=0)


class Stretches:
    """Asks of one room's stretches, for which its wide boxes are found just once."""

    def __init__(self, room):
        self.room = room
        self.boxes = wide_boxes(room)

    def greatest_over(self, left, right):
        """The greatest area, and the first box that has it, from left to right, as high as the room."""
        return greatest_cut(self.boxes, (left, 0, right, self.room[1]))

    def greatest_up(self, low, top):
        """The greatest area, and the first box that has it, from low to top, as wide as the room."""
        return greatest_cut(self.boxes, (0, low, self.room[0], top))

    def profile(self):
        """The list of the greatest area of a free box over each column, 0 where there is none."""
        return [greatest_at(self.boxes, x) for x in range(self.room[0])]
