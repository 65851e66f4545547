"""A small checker of boxes that are said to be wide."""

from emptybox.rooms import is_box, is_four_numbers, is_free
from emptybox.widening import bounds_of


def shows_wide(room, box, thing):
    """Whether box is a free box, and thing tells for each of its sides one that bounds it."""
    if not is_box(room, box) or not is_free(room, box) or not is_four_numbers(thing):
        return False
    return all(number in bounds for number, bounds in zip(thing, bounds_of(room, box)))
