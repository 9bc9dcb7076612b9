"""Tables of what a word does at a gap, where a row is just two bellows."""

from breathrows.breaths import breathed
from breathrows.errors import Unlike
from breathrows.words import nets


def brought_between(number, low, high):
    """The number, or the nearer of the two where it isn't between them."""
    return max(low, min(number, high))


class Table:
    """What a word does at a gap of rooms."""

    def __init__(self, rooms, gap, word=()):
        self.row_rooms = tuple(rooms)
        self.gap = gap
        self.net = nets(word)[0]
        two = (sum(self.row_rooms[:gap]), sum(self.row_rooms[gap:]))
        numbers = list(range(sum(two) + 1))
        # Of so many in all, the fewest lie ahead where they fill up from the right, the most
        # where from the left; a word keeps what is fewer no more, so these two tell the walls.
        least = [(max(0, many - two[1]), min(many, two[1])) for many in numbers]
        most = [(min(many, two[0]), max(0, many - two[0])) for many in numbers]
        behind_least = [breathed(two, pair, word) for pair in least]
        self.totals = [sum(pair) for pair in behind_least]
        self.lows = [pair[0] for pair in behind_least]
        self.highs = [breathed(two, pair, word)[0] for pair in most]

    def leads(self, pair):
        """How many lie ahead and behind once the word is done, where this pair did."""
        many = sum(pair)
        ahead = self.ahead_of(pair[0], many)
        return ahead, self.totals[many] - ahead

    def ahead_of(self, ahead, many):
        """How many lie ahead behind the word, where so many did, of so many in all."""
        return brought_between(ahead + self.net, self.lows[many], self.highs[many])

    def total(self, many):
        """How many lie in all behind the word, where so many did."""
        return self.totals[many]

    def walls(self, many):
        """The least and the greatest number ahead behind the word, of so many in all."""
        return self.lows[many], self.highs[many]

    def shift(self):
        """How many more ins than outs the left hand has."""
        return self.net

    def then(self, other):
        """The Table of this word and, behind it, other's."""
        if self.row_rooms != other.row_rooms or self.gap != other.gap:
            raise Unlike()
        told = Table(self.row_rooms, self.gap)
        told.net = self.net + other.net
        told.totals = [other.totals[many] for many in self.totals]
        told.lows = [other.ahead_of(low, many) for low, many in zip(self.lows, self.totals)]
        told.highs = [other.ahead_of(high, many) for high, many in zip(self.highs, self.totals)]
        return told

    def times(self, many):
        """The Table of the word so many times."""
        told = Table(self.row_rooms, self.gap)
        doubled = self
        # All stands still once the word was done as often as there is room for slips.
        rest = min(many, sum(self.row_rooms))
        while rest > 0:
            if rest & 1 == 1:
                told = told.then(doubled)
            doubled = doubled.then(doubled)
            rest = rest >> 1
        told.net = self.net * many
        return told

    def rooms(self):
        """The rooms of the row."""
        return self.row_rooms

    def spot(self):
        """The gap."""
        return self.gap

    def __eq__(self, other):
        if not isinstance(other, Table):
            return False
        if self.row_rooms != other.row_rooms or self.gap != other.gap or self.net != other.net:
            return False
        return self.totals == other.totals and self.lows == other.lows and self.highs == other.highs
