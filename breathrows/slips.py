"""A row of bellows with the slips that lie in them."""

from breathrows.breaths import lands
from breathrows.errors import NoBellows, NoGap, Open, Sealed, Unlike
from breathrows.words import INS


def bellows_text(many, room, is_shut):
    """How many lie in a bellows, and its room, in brackets of its own where it's sealed."""
    return f"[{many}/{room}]" if is_shut else f"{many}/{room}"


class Row:
    """Bellows with slips, side by side in each, and with what was heard at both ends."""

    def __init__(self, rooms):
        self.row_rooms = tuple(rooms)
        self.slips = [[] for room in self.row_rooms]
        self.shut = [False for room in self.row_rooms]
        self.heard_left = []
        self.heard_right = []

    def breathe(self, breath, slip=None):
        """Of an in the bellows where the slip lies, of an out the slip; None where something is heard."""
        at = self.landing(breath)
        if at is None:
            far_end = self.heard_right if breath in ("L+", "L-") else self.heard_left
            far_end.append(slip if breath in INS else None)
            return None
        if breath == "L-":
            return self.slips[at].pop(0)
        if breath == "R-":
            return self.slips[at].pop()
        self.slips[at].insert(0 if breath == "L+" else len(self.slips[at]), slip)
        return at

    def landing(self, breath):
        """The bellows in which the breath lands, sealed ones gone past; None where it's heard."""
        unsealed = [at for at, is_shut in enumerate(self.shut) if not is_shut]
        found = lands([self.row_rooms[at] for at in unsealed], [len(self.slips[at]) for at in unsealed], breath)
        return None if found is None else unsealed[found]

    def lies(self):
        """The lists of slips in each bellows, from the left."""
        return [list(slips) for slips in self.slips]

    def standing(self):
        """How many slips lie in each bellows, sealed ones too."""
        return tuple([len(slips) for slips in self.slips])

    def heard_at(self, side):
        """What was heard at the side, in order, None for each gasp."""
        return list(self.heard_left if side == "left" else self.heard_right)

    def rooms(self):
        """The rooms of the bellows."""
        return self.row_rooms

    def is_sealed(self, bellows):
        """Whether the bellows is sealed; NoBellows where there is none."""
        if not 0 <= bellows < len(self.shut):
            raise NoBellows(bellows)
        return self.shut[bellows]

    def seal(self, bellows):
        """From now on all goes past the bellows."""
        if self.is_sealed(bellows):
            raise Sealed(bellows)
        self.shut[bellows] = True

    def scrape(self, bellows):
        """The bellows is open again."""
        if not self.is_sealed(bellows):
            raise Open(bellows)
        self.shut[bellows] = False

    def sealed(self):
        """The rising list of the sealed bellows."""
        return [at for at, is_shut in enumerate(self.shut) if is_shut]

    def saw(self, other, gap):
        """This Row and other exchange all that lies behind the gap, and what is sealed there."""
        if self.row_rooms != other.row_rooms:
            raise Unlike()
        if not 0 <= gap <= len(self.row_rooms):
            raise NoGap(gap)
        mine, its = self.slips, other.slips
        self.slips, other.slips = mine[:gap] + its[gap:], its[:gap] + mine[gap:]
        mine, its = self.shut, other.shut
        self.shut, other.shut = mine[:gap] + its[gap:], its[:gap] + mine[gap:]

    def twin(self):
        """A Row of its own that's the same."""
        told = Row(self.row_rooms)
        told.slips = self.lies()
        told.shut = list(self.shut)
        told.heard_left = list(self.heard_left)
        told.heard_right = list(self.heard_right)
        return told

    def lengthened(self, other):
        """A Row of its own with other's bellows behind this one's; what was heard is this one's alone."""
        told = self.twin()
        told.row_rooms = self.row_rooms + other.row_rooms
        told.slips = told.slips + other.lies()
        told.shut = told.shut + other.shut
        return told

    def __len__(self):
        return len([slip for slips in self.slips for slip in slips])

    def __eq__(self, other):
        if not isinstance(other, Row):
            return False
        if self.row_rooms != other.row_rooms or self.slips != other.slips or self.shut != other.shut:
            return False
        return self.heard_left == other.heard_left and self.heard_right == other.heard_right

    def __str__(self):
        parts = [bellows_text(many, room, is_shut)
                 for many, room, is_shut in zip(self.standing(), self.row_rooms, self.shut)]
        return f"({' '.join(parts)})"
