"""Words done many times, and standings at which two words differ."""

from breathrows.breaths import breathed
from breathrows.courses import Course
from breathrows.errors import TooMany
from breathrows.gaps import aheads, standing_by, winds
from breathrows.limits import MOST
from breathrows.rows import how_many, standing_at
from breathrows.words import nets


def far(rooms, standing, word, many):
    """The standing behind the word done so many times."""
    # It stands still once the word was done as often as there is room for slips.
    behind, left_heard = Course(rooms, word).gone(aheads(rooms, standing), min(many, sum(rooms)))
    return standing_by(rooms, behind)


def winds_far(rooms, standing, word, many):
    """The winds of the word done so many times, together."""
    before = aheads(rooms, standing)
    moving = min(many, sum(rooms))
    behind, left_heard = Course(rooms, word).gone(before, moving)
    came = nets(word)[0] * moving - left_heard
    # From here on it stands still, so each more word blows as the next one does.
    steady = winds(rooms, standing_by(rooms, behind), word)
    return [came - new + old + wind * (many - moving) for old, new, wind in zip(before, behind, steady)]


def all_standings(rooms):
    """The rising list of all standings; TooMany where there are more than MOST."""
    many = how_many(rooms)
    if many > MOST:
        raise TooMany(many)
    return [standing_at(rooms, place) for place in range(many)]


def parted(rooms, one, other):
    """The first standing, rising, that the two words lead to unlike ones; None where there is none."""
    for standing in all_standings(rooms):
        if breathed(rooms, standing, one) != breathed(rooms, standing, other):
            return standing
    return None
