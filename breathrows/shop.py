"""A shop of rows, kept over many deeds."""

from breathrows.errors import (
    BadDeed, BadRooms, Known, NoBellows, NoGap, NoRow, Open, Sealed, TooLong, Unlike)
from breathrows.limits import LONGEST
from breathrows.rows import is_rooms
from breathrows.slips import Row
from breathrows.words import INS, breath_by_breath

# The deeds that do takes, and how many things each is handed.
DEEDS = {"build": 2, "raze": 1, "breathe": 2, "seal": 2, "scrape": 2, "saw": 3, "lengthen": 2}


def is_deed(thing):
    """Whether it's a tuple of the word of a deed and as many things as this is handed."""
    if not isinstance(thing, tuple) or len(thing) == 0 or not isinstance(thing[0], str):
        return False
    return thing[0] in DEEDS and len(thing) == 1 + DEEDS[thing[0]]


class Shop:
    """Rows by their names, with how many ins each has had."""

    def __init__(self):
        # By name the pair of a row and how many ins it has had. Neither this dict nor a row in
        # it is ever changed, only replaced, so that what was ahead of a deed can be kept as it is.
        self.kept = {}
        self.past = []
        self.log = []
        self.working = False

    def found(self, name):
        """The row and how many ins it has had; NoRow where there is none."""
        if name not in self.kept:
            raise NoRow(name)
        return self.kept[name]

    def become(self, kept):
        """The last step of each deed: from now on this is kept."""
        self.past.append(self.kept)
        self.kept = kept

    def go_back(self, many):
        """All deeds but the first so many are as if they had never been."""
        if many < len(self.past):
            self.kept = self.past[many]
            self.past = self.past[:many]

    def build(self, name, rooms):
        """A bare row; Known, BadRooms."""
        if name in self.kept:
            raise Known(name)
        handed = tuple(rooms) if isinstance(rooms, list) else rooms
        if not is_rooms(handed):
            raise BadRooms()
        self.become({**self.kept, name: (Row(handed), 0)})

    def raze(self, name):
        """The row is there no more; NoRow."""
        self.found(name)
        self.become({other: self.kept[other] for other in self.kept if other != name})

    def breathe(self, name, word):
        """The list of what the outs of the word bring, None for each gasp; NoRow."""
        before, count = self.found(name)
        row = before.twin()
        brought = []
        for breath in breath_by_breath(word):
            told = row.breathe(breath, count)
            if breath in INS:
                count += 1
            else:
                brought.append(told)
        self.become({**self.kept, name: (row, count)})
        return brought

    def seal(self, name, bellows):
        """As of Row; NoRow first."""
        before, count = self.found(name)
        row = before.twin()
        row.seal(bellows)
        self.become({**self.kept, name: (row, count)})

    def scrape(self, name, bellows):
        """As of Row; NoRow first."""
        before, count = self.found(name)
        row = before.twin()
        row.scrape(bellows)
        self.become({**self.kept, name: (row, count)})

    def saw(self, one, other, gap):
        """As of Row; NoRow first, then Unlike of one and the same name."""
        my_row, my_count = self.found(one)
        its_row, its_count = self.found(other)
        if one == other:
            raise Unlike()
        mine, its = my_row.twin(), its_row.twin()
        mine.saw(its, gap)
        self.become({**self.kept, one: (mine, my_count), other: (its, its_count)})

    def lengthen(self, one, other):
        """Other's bellows stand behind one's, other is there no more; NoRow, Unlike, TooLong."""
        my_row, count = self.found(one)
        its_row = self.found(other)[0]
        if one == other:
            raise Unlike()
        many = len(my_row.rooms()) + len(its_row.rooms())
        if many > LONGEST:
            raise TooLong(many)
        kept = {name: self.kept[name] for name in self.kept if name != other}
        self.become({**kept, one: (my_row.lengthened(its_row), count)})

    def undo(self):
        """Whether there was a deed to be undone, which is now as if it had never been."""
        if len(self.past) == 0:
            return False
        self.go_back(len(self.past) - 1)
        return True

    def do(self, deeds, *, whole=True):
        """The list of what the deeds tell; BadDeed ahead of all, else what refuses one of them."""
        for at, deed in enumerate(deeds):
            if not is_deed(deed):
                raise BadDeed(at)
        before = len(self.past)
        told = []
        done = 0
        self.log.append(("in", len(deeds)))
        self.working = True
        try:
            for deed in deeds:
                told.append(self.deed_done(deed[0], deed[1:]))
                self.log.append(deed[0])
                done += 1
        except (BadRooms, Known, NoBellows, NoGap, NoRow, Open, Sealed, TooLong, Unlike):
            if whole:
                self.go_back(before)
            raise
        finally:
            self.log.append(("out", done))
            self.working = False
        return told

    def deed_done(self, word, things):
        """What the deed of this word tells, handed these things."""
        if word == "build":
            return self.build(*things)
        if word == "raze":
            return self.raze(*things)
        if word == "breathe":
            return self.breathe(*things)
        if word == "seal":
            return self.seal(*things)
        if word == "scrape":
            return self.scrape(*things)
        if word == "saw":
            return self.saw(*things)
        return self.lengthen(*things)

    def names(self):
        """The rising list of the names."""
        return sorted(self.kept)

    def row_of(self, name):
        """A Row of its own that's the same; NoRow."""
        return self.found(name)[0].twin()

    def ins(self, name):
        """How many ins the row has had; NoRow."""
        return self.found(name)[1]

    def deeds(self):
        """How many deeds could be undone."""
        return len(self.past)

    def marks(self):
        """What each do left behind: its beginning, the words of the deeds done, its end."""
        return list(self.log)

    def is_open(self):
        """Whether no do is at work."""
        return not self.working

    def twin(self):
        """A Shop of its own that's the same."""
        told = Shop()
        told.kept = self.kept
        told.past = list(self.past)
        told.log = list(self.log)
        return told

    def __len__(self):
        return len(self.kept)

    def __eq__(self, other):
        if not isinstance(other, Shop):
            return False
        return self.kept == other.kept
