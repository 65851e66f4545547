"""A room that is kept, with its wide boxes, while walls come and go."""

from emptybox.boxes import boxes_over, greatest_of, wide_boxes
from emptybox.errors import NoWall, Taken
from emptybox.rooms import is_wall, parts_around, room_of, wall_lies_in
from emptybox.widening import is_wide


def grown(box):
    """All that is at most 1 away from the box."""
    left, low, right, top = box
    return (left - 1, low - 1, right + 1, top + 1)


def touches(wall, box):
    """Whether a wall lies in the box, or touches it."""
    return wall_lies_in(wall, grown(box))


def wide_parts(room, box, wall):
    """What a wall that came leaves of a box that was wide: the wide ones of the parts around it."""
    # What bounds a part of the box touches the box, so the other walls needn't be looked at.
    near = (room[0], room[1], tuple(one for one in room[2] if touches(one, box)))
    return [part for part in parts_around(box, wall) if part is not None and is_wide(near, part)]


class Kept:
    """A room, its wide boxes, and the deeds that can be undone."""

    def __init__(self, room):
        self.room = room
        self.boxes = wide_boxes(room)
        self.deeds = []
        self.changed = 0

    def room_now(self):
        return self.room

    def boxes_now(self):
        """The rising list of all wide boxes."""
        return list(self.boxes)

    def largest_now(self):
        """The greatest area of a free box, and the rising list of all wide boxes that have it."""
        return greatest_of(self.boxes)

    def come(self, wall):
        """A wall more; the wide boxes that were and are no more, and those that weren't and are now."""
        wide, high, walls = self.room
        if not is_wall(wide, high, wall):
            raise NoWall("this is no wall of such a room")
        if wall in walls:
            raise Taken("this wall is there")
        room = room_of(wide, high, [*walls, wall])
        gone = [box for box in self.boxes if wall_lies_in(wall, box)]
        new = sorted({part for box in gone for part in wide_parts(room, box, wall)})
        return self.done(room, gone, new)

    def go(self, wall):
        """A wall less; the wide boxes that were and are no more, and those that weren't and are now."""
        wide, high, walls = self.room
        if wall not in walls:
            raise NoWall("this wall isn't there")
        room = room_of(wide, high, [one for one in walls if one != wall])
        # Boxes that aren't at the wall had, and have, their bounds without it.
        gone = [box for box in self.boxes if touches(wall, box) and not is_wide(room, box)]
        new = boxes_over(room, (0, 0, wide, high), wall)
        return self.done(room, gone, new)

    def undo(self):
        """The last deed that isn't undone is taken back; its two lists the other way about, None without any."""
        if not self.deeds:
            self.changed = 0
            return None
        room, boxes, gone, new = self.deeds.pop()
        self.room = room
        self.boxes = boxes
        self.changed = len(gone) + len(new)
        return (new, gone)

    def looked(self):
        """How many wide boxes the last deed or undo changed."""
        return self.changed

    def done(self, room, gone, new):
        """The room is this one now; what was is kept, so that it can be undone."""
        self.deeds.append((self.room, self.boxes, gone, new))
        lost = {box: True for box in gone}
        self.room = room
        self.boxes = sorted([box for box in self.boxes if box not in lost] + new)
        self.changed = len(gone) + len(new)
        return (list(gone), list(new))
