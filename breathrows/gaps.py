"""The gaps between bellows: what lies ahead of them, and what goes over them."""

from breathrows.breaths import run_done, word_done
from breathrows.errors import BadGap
from breathrows.words import nets


def at_gap(rooms, standing, gap):
    """How many slips lie ahead of the gap, and behind it."""
    return sum(standing[:gap]), sum(standing[gap:])


def aheads(rooms, standing):
    """The list of how many slips lie ahead of each gap."""
    numbers = [0]
    for many in standing:
        numbers.append(numbers[-1] + many)
    return numbers


def standing_by(rooms, numbers):
    """The standing whose aheads these are; BadGap of the first one that can't be."""
    if numbers[0] != 0:
        raise BadGap(0)
    standing = []
    for at, room in enumerate(rooms):
        many = numbers[at + 1] - numbers[at]
        if not 0 <= many <= room:
            raise BadGap(at + 1)
        standing.append(many)
    return tuple(standing)


def over_gap(before, behind, breath, many, gap):
    """How many breaths of a run go over the gap, by what lay and what lies in each bellows."""
    # Those don't that land, or take, on their own hand's side of it.
    if breath in ("L+", "L-"):
        return many - abs(sum(behind[:gap]) - sum(before[:gap]))
    return many - abs(sum(behind[gap:]) - sum(before[gap:]))


def crossed(rooms, standing, word, gap):
    """How often breaths of the word go over the gap to the right, and to the left."""
    to_right = to_left = 0
    before = list(standing)
    for breath, many in word:
        behind, rest = run_done(rooms, before, breath, many)
        over = over_gap(before, behind, breath, many, gap)
        if breath in ("L+", "R-"):
            to_right += over
        else:
            to_left += over
        before = behind
    return to_right, to_left


def winds(rooms, standing, word):
    """The list, gap by gap, of how much more goes to the right than to the left."""
    behind, counts = word_done(rooms, standing, word)
    # What came in at the left end and didn't come to lie ahead of a gap went over it.
    came = nets(word)[0] - counts[0] + counts[1]
    return [came - new + old for old, new in zip(aheads(rooms, standing), aheads(rooms, behind))]
