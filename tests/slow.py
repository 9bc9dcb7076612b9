"""Rows gone through breath by breath, as the document tells it, to compare with."""

import itertools

BREATHS = ("L+", "L-", "R+", "R-")


def breath_done(rooms, lying, breath):
    """Changes the list lying; tells the bellows, None where the breath is heard."""
    order = range(len(rooms)) if breath[0] == "L" else range(len(rooms) - 1, -1, -1)
    for at in order:
        if breath[1] == "+" and lying[at] < rooms[at]:
            lying[at] += 1
            return at
        if breath[1] == "-" and lying[at] > 0:
            lying[at] -= 1
            return at
    return None


def breaths_of(word):
    return [breath for breath, many in word for _ in range(many)]


def landings(rooms, standing, word):
    """The pairs of each breath and where it lands."""
    lying = list(standing)
    return [(breath, breath_done(rooms, lying, breath)) for breath in breaths_of(word)]


def behind(rooms, standing, word):
    lying = list(standing)
    for breath in breaths_of(word):
        breath_done(rooms, lying, breath)
    return tuple(lying)


def heard(rooms, standing, word):
    told = [breath for breath, at in landings(rooms, standing, word) if at is None]
    return tuple(told.count(breath) for breath in ("R+", "R-", "L+", "L-"))


def crossed(rooms, standing, word, gap):
    to_right = to_left = 0
    for breath, at in landings(rooms, standing, word):
        if breath == "L+" and (at is None or at >= gap):
            to_right += 1
        if breath == "R-" and (at is None or at < gap):
            to_right += 1
        if breath == "R+" and (at is None or at < gap):
            to_left += 1
        if breath == "L-" and (at is None or at >= gap):
            to_left += 1
    return to_right, to_left


def winds(rooms, standing, word):
    pairs = [crossed(rooms, standing, word, gap) for gap in range(len(rooms) + 1)]
    return [to_right - to_left for to_right, to_left in pairs]


def all_standings(rooms):
    """All standings of the rooms, rising."""
    return list(itertools.product(*[range(room + 1) for room in rooms]))


def some_standing(chance, rooms):
    return tuple(chance.randint(0, room) for room in rooms)


def some_word(chance, runs, most):
    """A word of so many runs of at most so many breaths."""
    return [(chance.choice(BREATHS), chance.randint(1, most)) for _ in range(runs)]


def some_rooms(chance, size, most):
    return tuple(chance.randint(1, most) for _ in range(size))


def layers(rooms, start, breaths):
    """By layers from the start: for each standing all words of the fewest breaths, two at most, as lists of breaths."""
    told = {start: [[]]}
    layer = [start]
    while layer:
        further = {}
        for standing in layer:
            for breath in breaths:
                lying = list(standing)
                breath_done(rooms, lying, breath)
                if tuple(lying) not in told:
                    words = further.setdefault(tuple(lying), [])
                    words += [word + [breath] for word in told[standing]]
                    del words[2:]
        told.update(further)
        layer = list(further)
    return told


def runs_of(breaths):
    """The plain word of these breaths."""
    return [(breath, len(list(group))) for breath, group in itertools.groupby(breaths)]
