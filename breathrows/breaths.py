"""What each breath does to a standing, and what is heard at the ends."""

from breathrows.words import INS

# Where in what heard tells a breath counts that finds no bellows to land in.
HEARD_AT = {"R+": 0, "R-": 1, "L+": 2, "L-": 3}


def reached(rooms, breath):
    """The numbers of the bellows, in the order in which the breath goes past them."""
    bellows = list(range(len(rooms)))
    if breath in ("L+", "L-"):
        return bellows
    return bellows[::-1]


def run_done(rooms, standing, breath, many):
    """The list of how many lie in each bellows behind a run, and how many of its breaths are heard."""
    lying = list(standing)
    comes_in = breath in INS
    rest = many
    for at in reached(rooms, breath):
        if rest == 0:
            break
        landed = min(rest, rooms[at] - lying[at] if comes_in else lying[at])
        lying[at] += landed if comes_in else -landed
        rest -= landed
    return lying, rest


def word_done(rooms, standing, word):
    """The standing behind the word, and the tuple of what is heard."""
    lying = list(standing)
    counts = [0, 0, 0, 0]
    for breath, many in word:
        lying, rest = run_done(rooms, lying, breath, many)
        counts[HEARD_AT[breath]] += rest
    return tuple(lying), tuple(counts)


def lands(rooms, standing, breath):
    """The bellows in which the breath makes one more or one fewer; None where it's heard."""
    lying, rest = run_done(rooms, standing, breath, 1)
    for at, many in enumerate(lying):
        if many != standing[at]:
            return at
    return None


def breathed(rooms, standing, word):
    """The standing behind the word."""
    lying, counts = word_done(rooms, standing, word)
    return lying


def heard(rooms, standing, word):
    """How many slips are heard at the left, gasps there, slips at the right, gasps there."""
    lying, counts = word_done(rooms, standing, word)
    return counts
