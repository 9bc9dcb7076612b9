"""The fewest breaths from one standing to another, by one hand and by both."""

from breathrows.breaths import breathed
from breathrows.ways import left_way
from breathrows.words import BREATHS, is_word, size_of, turned


def fewest_left(rooms, one, other):
    """The plain word of the fewest breaths of the left hand that lead from one to other."""
    return [(breath, many) for at, breath, many in left_way(rooms, one, other)]


def fewest_right(rooms, one, other):
    """The same of the right hand."""
    return turned(fewest_left(rooms[::-1], one[::-1], other[::-1]))


def by_gap(rooms, one, other, gap):
    """The left hand's word for the bellows ahead of the gap and, behind it, the right one's for the rest."""
    # Each breath of these lands on its own side, so neither hand disturbs the other's.
    left = fewest_left(rooms[:gap], one[:gap], other[:gap])
    return left + fewest_right(rooms[gap:], one[gap:], other[gap:])


def fewest(rooms, one, other):
    """The first gap by which the breaths of both hands are the fewest, and the word by it."""
    words = [by_gap(rooms, one, other, gap) for gap in range(len(rooms) + 1)]
    sizes = [size_of(word) for word in words]
    gap = sizes.index(min(sizes))
    return gap, words[gap]


def how_few(rooms, one, other):
    """How many breaths of both hands lead from one to other at least."""
    return size_of(fewest(rooms, one, other)[1])


def shows_fewest(rooms, one, other, thing):
    """Whether it's a word that leads from one to other with the fewest breaths."""
    if not is_word(thing) or size_of(thing) > how_few(rooms, one, other):
        return False
    return breathed(rooms, one, thing) == tuple(other)


def nearer(rooms, one, other):
    """The breaths behind which fewer are left."""
    few = how_few(rooms, one, other)
    return [breath for breath in BREATHS if how_few(rooms, breathed(rooms, one, [(breath, 1)]), other) < few]
