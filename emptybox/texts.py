"""Texts of rooms: rows parted by line feeds, words by one blank."""

from emptybox.errors import BadRow
from emptybox.rooms import is_wall, kind_of

MOST_FIGURES = 7


def is_figures(word):
    """Whether it's a number as it must be written."""
    if not word.isascii() or not word.isdigit() or len(word) > MOST_FIGURES:
        return False
    return word == "0" or word[0] != "0"


def numbers_behind(row, word, many):
    """The list of the numbers in a row of this word and so many numbers, None where it isn't so written."""
    first, *figures = row.split(" ")
    if first != word or len(figures) != many or not all(is_figures(part) for part in figures):
        return None
    return [int(part) for part in figures]


def size_from(row):
    """How wide and how high the room of a text is by its first row, None where that isn't so written."""
    size = numbers_behind(row, "room", 2)
    return None if size is None or 0 in size else size


def wall_from(row):
    """The wall of a row, None where it isn't so written."""
    point = numbers_behind(row, "point", 2)
    if point is not None:
        return tuple(point + point)
    wall = numbers_behind(row, "wall", 4)
    # A point has one way of being written only.
    return None if wall is None or kind_of(wall) == "point" else tuple(wall)


def numbers_text(numbers):
    return " ".join(str(number) for number in numbers)


def wall_text(wall):
    if kind_of(wall) == "point":
        return "point " + numbers_text(wall[:2])
    return "wall " + numbers_text(wall)


def room_text(room):
    """The room's text."""
    return "\n".join(["room " + numbers_text(room[:2])] + [wall_text(wall) for wall in room[2]])


def room_from(text):
    """The room of a text; refused with BadRow by the first row that is wrong."""
    first, *rows = text.split("\n")
    size = size_from(first)
    if size is None:
        raise BadRow(0)
    walls = []
    for number, row in enumerate(rows, start=1):
        wall = wall_from(row)
        if wall is None or not is_wall(size[0], size[1], wall) or (walls and wall <= walls[-1]):
            raise BadRow(number)
        walls.append(wall)
    return (size[0], size[1], tuple(walls))
