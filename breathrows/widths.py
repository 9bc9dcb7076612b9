"""How far apart two standings are."""

from breathrows.breaths import breathed
from breathrows.gaps import aheads, standing_by


def unlikenesses(rooms, one, other):
    """Gap by gap, how many more, or fewer, lie ahead in the one than in the other."""
    return [abs(mine - its) for mine, its in zip(aheads(rooms, one), aheads(rooms, other))]


def width(rooms, one, other):
    """The greatest unlikeness of all gaps."""
    return max(unlikenesses(rooms, one, other))


def widest(rooms, one, other):
    """The first gap at which the unlikeness is greatest; None of one and the same."""
    by_gap = unlikenesses(rooms, one, other)
    greatest = max(by_gap)
    if greatest == 0:
        return None
    return by_gap.index(greatest)


def widths(rooms, one, other, words):
    """The widths at first and behind each of the words, done with both one behind the other."""
    first, second = one, other
    told = [width(rooms, first, second)]
    for word in words:
        first = breathed(rooms, first, word)
        second = breathed(rooms, second, word)
        told.append(width(rooms, first, second))
    return told


def is_below(rooms, one, other):
    """Whether at no gap more lie ahead in the one than in the other."""
    return all([mine <= its for mine, its in zip(aheads(rooms, one), aheads(rooms, other))])


def between(rooms, one, other):
    """The standings that at each gap have as many ahead as the one with fewer, with more."""
    pairs = list(zip(aheads(rooms, one), aheads(rooms, other)))
    fewer = standing_by(rooms, [min(pair) for pair in pairs])
    more = standing_by(rooms, [max(pair) for pair in pairs])
    return fewer, more
