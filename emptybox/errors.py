"""The refusals: each stands straight under BoxError, none under another one."""


class BoxError(ValueError):
    """What all refusals have in common."""


class NotFree(BoxError):
    """A box that must be free isn't: wall is the first wall's number that lies in it."""

    def __init__(self, wall):
        super().__init__(f"wall {wall} lies in the box")
        self.wall = wall


class BadRow(BoxError):
    """A text isn't written as it must be: row is the number of its first wrong row."""

    def __init__(self, row):
        super().__init__(f"row {row} is not written as it must be")
        self.row = row


class NoWall(BoxError):
    """This isn't a wall of such a room, or it isn't there."""


class Taken(BoxError):
    """This wall is there already."""
