"""How a standing goes on where one word is done again and again."""

from breathrows.breaths import breathed, word_done
from breathrows.gaps import aheads
from breathrows.rows import bare
from breathrows.tables import brought_between
from breathrows.words import nets


def all_between(numbers, more, lows, highs):
    """The numbers, so much more each, brought between the walls of their gaps."""
    return [brought_between(number + more, low, high) for number, low, high in zip(numbers, lows, highs)]


class Course:
    """Leaps of 1, 2, 4, 8 and so on of one word at once, over all gaps of a row.

    A leap is told, for a number of slips in all, by a tuple: how many lie in all behind
    it, the fewest and the most that can lie ahead of each gap then, and how many more
    slips than gasps are heard at the left meanwhile (which hangs on no more than how many
    lie in all). A leap is made when it's first needed, of two leaps of half its words.
    """

    def __init__(self, rooms, word):
        self.row_rooms = tuple(rooms)
        self.runs = [(breath, many) for breath, many in word]
        self.net = nets(word)[0]
        self.known = {}

    def leap(self, level, many):
        """The leap of 1 << level words, for so many slips in all."""
        key = (level, many)
        if key not in self.known:
            self.known[key] = self.single_leap(many) if level == 0 else self.double_leap(level, many)
        return self.known[key]

    def single_leap(self, many):
        """The leap of one word."""
        rooms = self.row_rooms
        # Of so many slips these two have the fewest and the most ahead of every gap.
        least = breathed(rooms, bare(rooms), [("R+", many)])
        most = breathed(rooms, bare(rooms), [("L+", many)])
        behind, counts = word_done(rooms, least, self.runs)
        highs = aheads(rooms, breathed(rooms, most, self.runs))
        return sum(behind), aheads(rooms, behind), highs, counts[0] - counts[1]

    def double_leap(self, level, many):
        """The leap made of two of half its words."""
        middle, first_lows, first_highs, first_heard = self.leap(level - 1, many)
        total, lows, highs, last_heard = self.leap(level - 1, middle)
        more = self.net << (level - 1)
        new_lows = all_between(first_lows, more, lows, highs)
        new_highs = all_between(first_highs, more, lows, highs)
        return total, new_lows, new_highs, first_heard + last_heard

    def leapt(self, level, numbers):
        """How many lie ahead of each gap behind a leap, where these numbers did."""
        total, lows, highs, left_heard = self.leap(level, numbers[-1])
        return all_between(numbers, self.net << level, lows, highs)

    def gone(self, numbers, words):
        """The same behind so many words, and how many more slips than gasps are heard at the left."""
        now = list(numbers)
        left_heard = 0
        level = 0
        rest = words
        while rest > 0:
            if rest & 1 == 1:
                left_heard += self.leap(level, now[-1])[3]
                now = self.leapt(level, now)
            level += 1
            rest = rest >> 1
        return now, left_heard
