"""Which breath of a word takes the slip that another one brought."""

from breathrows.rows import is_number
from breathrows.slips import Row
from breathrows.words import INS, breath_by_breath


def mates(rooms, word):
    """For each in, in order: its number, the bellows where its slip lies, the number of the out that takes it."""
    row = Row(rooms)
    landed = {}
    takers = {}
    for number, breath in enumerate(breath_by_breath(word)):
        told = row.breathe(breath, number)
        if breath in INS:
            landed[number] = told
        elif told is not None:
            takers[told] = number
    return [(number, landed[number], takers.get(number)) for number in landed]


def left_lying(rooms, word):
    """The lists of the numbers of the ins whose slips lie in each bellows behind the word."""
    row = Row(rooms)
    for number, breath in enumerate(breath_by_breath(word)):
        row.breathe(breath, number)
    return row.lies()


def is_triple(thing):
    """Whether it's a tuple of three, each a number or None."""
    if not isinstance(thing, tuple) or len(thing) != 3:
        return False
    return all([part is None or is_number(part) for part in thing])


def shows_mates(rooms, word, thing):
    """Whether it's what mates tells."""
    # True would be equal to 1, so what each thing is has to be looked at first.
    if not isinstance(thing, list) or not all([is_triple(part) for part in thing]):
        return False
    return thing == mates(rooms, word)
