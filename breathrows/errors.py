"""The refusals.

No refusal writes its fields into words of its own: Python refuses to write
very great numbers, and that would hide the refusal that is due.
"""


class BadGap(ValueError):
    """The number at this gap can't be behind those ahead of it."""

    def __init__(self, gap):
        self.gap = gap


class BadRooms(ValueError):
    """These are no rooms."""


class BadText(ValueError):
    """The text can be right for so many signs only."""

    def __init__(self, at):
        self.at = at


class BadRow(ValueError):
    """The row of this number isn't written as a desk's row is."""

    def __init__(self, row):
        self.row = row


class BadDeed(ValueError):
    """What stands at this place of a list of deeds is none."""

    def __init__(self, at):
        self.at = at


class Unlike(ValueError):
    """The two don't go together."""


class NoPlace(LookupError):
    """No standing has this place."""

    def __init__(self, place):
        self.place = place


class NoBellows(LookupError):
    """No bellows has this number."""

    def __init__(self, bellows):
        self.bellows = bellows


class NoGap(LookupError):
    """No gap has this number."""

    def __init__(self, gap):
        self.gap = gap


class NoRow(KeyError):
    """No row of the shop has this name."""

    def __init__(self, name):
        self.name = name


class TooMany(OverflowError):
    """There are so many standings, more than are gone through."""

    def __init__(self, many):
        self.many = many


class TooLong(OverflowError):
    """The row would have so many bellows, more than are allowed."""

    def __init__(self, many):
        self.many = many


class Known(RuntimeError):
    """A row of the shop has this name already."""

    def __init__(self, name):
        self.name = name


class Sealed(RuntimeError):
    """The bellows of this number is sealed already."""

    def __init__(self, bellows):
        self.bellows = bellows


class Open(RuntimeError):
    """The bellows of this number isn't sealed."""

    def __init__(self, bellows):
        self.bellows = bellows
