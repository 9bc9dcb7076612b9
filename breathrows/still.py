"""Where a word, done again and again, comes to stand still."""

from breathrows.breaths import breathed
from breathrows.courses import Course
from breathrows.far import all_standings, far
from breathrows.gaps import aheads, standing_by, winds
from breathrows.rows import bare, full


def stands(rooms, standing, word):
    """The least number of words behind which nothing changes, and the standing then."""
    course = Course(rooms, word)
    now = aheads(rooms, standing)
    if course.leapt(0, now) == now:
        return 0, tuple(standing)
    many = 0
    # The greatest leap first, each is taken that doesn't yet come to what stands still: so
    # in the end just one word is lacking. All leaps together are as many words as there is
    # room for slips, at least, and no standing moves longer than that.
    for level in reversed(range(sum(rooms).bit_length())):
        further = course.leapt(level, now)
        if course.leapt(0, further) != further:
            now = further
            many += 1 << level
    return many + 1, standing_by(rooms, course.leapt(0, now))


def stays(rooms, standing, word):
    """Whether the word leads the standing to itself."""
    return breathed(rooms, standing, word) == tuple(standing)


def least_still(rooms, word):
    """Of all standings that stay the one with the fewest ahead of each gap."""
    return far(rooms, bare(rooms), word, sum(rooms))


def greatest_still(rooms, word):
    """Of all standings that stay the one with the most ahead of each gap."""
    return far(rooms, full(rooms), word, sum(rooms))


def stills(rooms, word):
    """The rising list of all standings that stay; TooMany where there are too many to look at."""
    return [standing for standing in all_standings(rooms) if stays(rooms, standing, word)]


def made_one(rooms, word):
    """The standing to which the word leads all; None where it leads some to unlike ones."""
    # All standings lie between the bare and the full one, and words keep it so.
    behind = breathed(rooms, bare(rooms), word)
    if breathed(rooms, full(rooms), word) == behind:
        return behind
    return None


def wind_of(rooms, standing, word):
    """The wind of a standing that stays, one and the same at all gaps."""
    return winds(rooms, standing, word)[0]
