"""A desk: a text of deeds and asks, row by row, of a room without walls at first."""

from emptybox.boxes import largest
from emptybox.counting import areas, count_free, fits, sizes_of
from emptybox.errors import BadRow, NoWall, Taken
from emptybox.gaps import with_gap
from emptybox.kept import Kept
from emptybox.places import around
from emptybox.rooms import is_box
from emptybox.squares import largest_square
from emptybox.texts import numbers_behind, numbers_text, size_from
from emptybox.windows import greatest_in

MOST_WIDE = 40
# Asks that are answered of rooms at most that wide and high only.
SMALL_ROOMS_ONLY = ("squares", "count", "sizes", "fits")


def listed(texts):
    return " ; ".join(texts) if texts else "-"


def boxes_text(boxes):
    return listed([numbers_text(box) for box in boxes])


def wall_comes(kept, numbers):
    try:
        kept.come(tuple(numbers))
    except NoWall:
        return "NoWall"
    except Taken:
        return "Taken"
    return "done"


def point_comes(kept, numbers):
    return wall_comes(kept, numbers + numbers)


def wall_goes(kept, numbers):
    try:
        kept.go(tuple(numbers))
    except NoWall:
        return "NoWall"
    return "done"


def taken_back(kept, numbers):
    return "none" if kept.undo() is None else "done"


def told_boxes(kept, numbers):
    return boxes_text(kept.boxes_now())


def told_largest(kept, numbers):
    area, boxes = kept.largest_now()
    return f"{area} : {boxes_text(boxes)}"


def told_squares(kept, numbers):
    side, corners = largest_square(kept.room_now())
    return f"{side} times {len(corners)}"


def told_count(kept, numbers):
    return str(count_free(kept.room_now()))


def told_sizes(kept, numbers):
    return listed([f"{wide} by {high}" for wide, high in sizes_of(kept.room_now())])


def told_fits(kept, numbers):
    if 0 in numbers:
        return "no box"
    return str(len(fits(kept.room_now(), numbers[0], numbers[1])))


def told_in(kept, numbers):
    window = tuple(numbers)
    if not is_box(kept.room_now(), window):
        return "no box"
    area, box = greatest_in(kept.room_now(), window)
    return f"{area} : {boxes_text([] if box is None else [box])}"


def told_around(kept, numbers):
    box = tuple(numbers)
    if not is_box(kept.room_now(), box):
        return "no box"
    return boxes_text(around(kept.room_now(), box))


def told_gap(kept, numbers):
    return str(largest(with_gap(kept.room_now(), numbers[0]))[0])


def told_areas(kept, numbers):
    return listed([f"{area} times {many}" for area, many in areas(kept.room_now())])


# How many numbers stand behind a row's first word.
NUMBERS = {
    "point": 2, "wall": 4, "away": 4, "undo": 0, "boxes": 0, "largest": 0, "squares": 0, "count": 0, "sizes": 0,
    "fits": 2, "in": 4, "around": 4, "gap": 1, "areas": 0,
}
ACTIONS = {
    "point": point_comes, "wall": wall_comes, "away": wall_goes, "undo": taken_back, "boxes": told_boxes,
    "largest": told_largest, "squares": told_squares, "count": told_count, "sizes": told_sizes, "fits": told_fits,
    "in": told_in, "around": told_around, "gap": told_gap, "areas": told_areas,
}


def row_read(row):
    """A row's word and its numbers, None where it isn't so written."""
    word = row.split(" ")[0]
    if word not in NUMBERS:
        return None
    numbers = numbers_behind(row, word, NUMBERS[word])
    return None if numbers is None else (word, numbers)


def rows_read(rows):
    """What all rows behind the first say; refused with BadRow by the first one that is wrong."""
    told = []
    for number, row in enumerate(rows, start=1):
        said = row_read(row)
        if said is None:
            raise BadRow(number)
        told.append(said)
    return told


def told_of(kept, word, numbers):
    """What is told of one row."""
    room = kept.room_now()
    if word in SMALL_ROOMS_ONLY and max(room[0], room[1]) > MOST_WIDE:
        return "too great"
    action = ACTIONS[word]
    return action(kept, numbers)


def desk_told(text):
    """The list of a text for each row but the first; refused with BadRow, ahead of all answers."""
    first, *rows = text.split("\n")
    size = size_from(first)
    if size is None:
        raise BadRow(0)
    said = rows_read(rows)
    kept = Kept((size[0], size[1], ()))
    return [told_of(kept, word, numbers) for word, numbers in said]
