"""Breaths, and words: lists of runs of breaths."""

from breathrows.rows import is_number

BREATHS = ("L+", "L-", "R+", "R-")
INS = ("L+", "R+")
OTHER_HAND = {"L+": "R+", "L-": "R-", "R+": "L+", "R-": "L-"}
OTHER_WAY = {"L+": "L-", "L-": "L+", "R+": "R-", "R-": "R+"}


def is_run(thing):
    """Whether it's a pair of a breath and a number from 1 on."""
    if not isinstance(thing, tuple) or len(thing) != 2:
        return False
    breath, many = thing
    return breath in BREATHS and is_number(many) and many >= 1


def is_word(thing):
    """Whether it's a list of runs, maybe of none."""
    return isinstance(thing, list) and all([is_run(run) for run in thing])


def plain(word):
    """The same word with neighbouring runs of one breath as one run."""
    runs = []
    for breath, many in word:
        if runs and runs[-1][0] == breath:
            runs[-1] = (breath, runs[-1][1] + many)
        else:
            runs.append((breath, many))
    return runs


def size_of(word):
    """How many breaths the word has."""
    return sum([many for breath, many in word])


def breath_by_breath(word):
    """The list of the word's breaths, each by itself."""
    return [breath for breath, many in word for once in range(many)]


def net_of(word, breath_in, breath_out):
    """How many more of the one breath the word has than of the other."""
    ins = sum([many for breath, many in word if breath == breath_in])
    outs = sum([many for breath, many in word if breath == breath_out])
    return ins - outs


def nets(word):
    """How many more ins than outs the left hand has, and the right one."""
    return net_of(word, "L+", "L-"), net_of(word, "R+", "R-")


def turned(word):
    """The word with the hands exchanged."""
    return [(OTHER_HAND[breath], many) for breath, many in word]


def contrary(word):
    """The word with ins and outs exchanged."""
    return [(OTHER_WAY[breath], many) for breath, many in word]


def begun(word, many):
    """The first so many breaths of the word, all where there are no more."""
    runs = []
    rest = many
    for breath, breaths in word:
        if rest <= 0:
            break
        runs.append((breath, min(breaths, rest)))
        rest -= breaths
    return plain(runs)
