"""A shop gone through as [16] tells it, to compare with: all is copied ahead of each deed."""

import copy

from breathrows import errors
from breathrows.shop import Shop
from slips_by_rule import SlowRow, everything
from slow import breaths_of


class Refused(Exception):
    """Refused by the refusal of this name, with these fields."""

    def __init__(self, refusal, **fields):
        super().__init__(refusal, fields)
        self.refusal = refusal
        self.fields = fields


def is_rooms_or_list(thing):
    return isinstance(thing, (list, tuple)) and len(thing) > 0 and all(
        type(room) is int and room > 0 for room in thing)


class SlowShop:
    def __init__(self):
        self.rows = {}
        self.counts = {}
        self.past = []
        self.marks = []

    def deed(self, word, *things):
        """What the deed tells; Refused."""
        before = copy.deepcopy((self.rows, self.counts))
        told = getattr(self, word)(*things)
        self.past.append(before)
        return told

    def need(self, *names):
        for name in names:
            if name not in self.rows:
                raise Refused("NoRow", name=name)

    def build(self, name, rooms):
        if name in self.rows:
            raise Refused("Known", name=name)
        if not is_rooms_or_list(rooms):
            raise Refused("BadRooms")
        self.rows[name], self.counts[name] = SlowRow(rooms), 0

    def raze(self, name):
        self.need(name)
        del self.rows[name], self.counts[name]

    def breathe(self, name, word):
        self.need(name)
        told = []
        for breath in breaths_of(word):
            got = self.rows[name].breathe(breath, self.counts[name])
            if breath[1] == "+":
                self.counts[name] += 1
            else:
                told.append(got)
        return told

    def seal(self, name, bellows):
        self.need(name)
        row = self.rows[name]
        if bellows not in range(len(row.rooms)):
            raise Refused("NoBellows", bellows=bellows)
        if bellows in row.sealed:
            raise Refused("Sealed", bellows=bellows)
        row.sealed.add(bellows)

    def scrape(self, name, bellows):
        self.need(name)
        row = self.rows[name]
        if bellows not in range(len(row.rooms)):
            raise Refused("NoBellows", bellows=bellows)
        if bellows not in row.sealed:
            raise Refused("Open", bellows=bellows)
        row.sealed.remove(bellows)

    def saw(self, one, other, gap):
        self.need(one, other)
        if one == other or self.rows[one].rooms != self.rows[other].rooms:
            raise Refused("Unlike")
        if gap not in range(len(self.rows[one].rooms) + 1):
            raise Refused("NoGap", gap=gap)
        self.rows[one].saw(self.rows[other], gap)

    def lengthen(self, one, other):
        self.need(one, other)
        if one == other:
            raise Refused("Unlike")
        mine, its = self.rows[one], self.rows[other]
        many = len(mine.rooms) + len(its.rooms)
        if many > 12:
            raise Refused("TooLong", many=many)
        mine.sealed |= {len(mine.rooms) + at for at in its.sealed}
        mine.rooms += its.rooms
        mine.slips += its.slips
        del self.rows[other], self.counts[other]

    def undo(self):
        if not self.past:
            return False
        self.rows, self.counts = self.past.pop()
        return True

    def do(self, deeds, whole):
        before = len(self.past)
        self.marks.append(("in", len(deeds)))
        told = []
        try:
            for deed in deeds:
                told.append(self.deed(*deed))
                self.marks.append(deed[0])
        except Refused:
            while whole and len(self.past) > before:
                self.undo()
            raise
        finally:
            self.marks.append(("out", len(told)))
        return told

    def everything(self):
        names = sorted(self.rows)
        return [names, [self.rows[name].everything() for name in names], [self.counts[name] for name in names],
                len(names), len(self.past), self.marks, True]


def all_of(shop):
    """All that a Shop tells."""
    names = shop.names()
    return [names, [everything(shop.row_of(name)) for name in names], [shop.ins(name) for name in names],
            len(shop), shop.deeds(), shop.marks(), shop.is_open()]


def told_or_refused(ask, *things, **named):
    """("told", what), or the name of the refusal and its fields."""
    try:
        return "told", ask(*things, **named)
    except Refused as refused:
        return refused.refusal, refused.fields
    except (ValueError, LookupError, OverflowError, RuntimeError) as refusal:
        assert type(refusal).__module__ == errors.__name__, refusal
        return type(refusal).__name__, vars(refusal)


def made_anew(deeds):
    """A Shop to which just these deeds were done."""
    shop = Shop()
    for word, *things in deeds:
        getattr(shop, word)(*things)
    return shop
