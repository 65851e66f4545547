"""Boxes within a window, which is a box too."""

from emptybox.boxes import boxes_within, first_greatest


def in_window(room, window):
    """The rising list of all free boxes in the window that can't be made wider within it."""
    return boxes_within(room, window)


def greatest_in(room, window):
    """The greatest area of these, and the first box that has it; (0, None) without any."""
    return first_greatest(in_window(room, window))
