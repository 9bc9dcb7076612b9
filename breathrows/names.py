"""Names: the turns of the left hand that lead from the bare row to a standing."""

from breathrows.breaths import breathed
from breathrows.rows import bare, is_number
from breathrows.ways import left_way


def led_by(rooms, turns):
    """The standing behind these turns from the bare row."""
    word = [("L+" if at & 1 == 0 else "L-", many) for at, many in enumerate(turns)]
    return breathed(rooms, bare(rooms), word)


def name_of(rooms, standing):
    """The turns of the fewest breaths that lead to the standing."""
    return [many for at, breath, many in left_way(rooms, bare(rooms), standing)]


def is_name(rooms, thing):
    """Whether it's the name of some standing."""
    if not isinstance(thing, list) or not all([is_number(many) and many >= 1 for many in thing]):
        return False
    return name_of(rooms, led_by(rooms, thing)) == thing


def depths(rooms, standing):
    """The bellows in which, turn by turn of the standing's name, the last breath lands."""
    return [at for at, breath, many in left_way(rooms, bare(rooms), standing)]


def named_so(rooms, many):
    """How many standings have a name of so many turns."""
    # From the right, the bellows stand bare up to the first turn's, full up to the second
    # one's, and so on. So any choice of so many bellows may be those of the turns, and in
    # each of them may lie any number but the one that would need no turn: as many as its room.
    if not 0 <= many <= len(rooms):
        return 0
    counts = [1] + [0] * len(rooms)
    for room in rooms:
        counts = [1] + [more + room * one for one, more in zip(counts, counts[1:])]
    return counts[many]


def first_over(rooms, standing, gap):
    """Which L+ of a run, and which L-, is the first that goes over the gap, 1 being the first one."""
    ahead = sum(standing[:gap])
    return sum(rooms[:gap]) - ahead + 1, ahead + 1


def with_turn(rooms, turns, many):
    """The name behind one turn more."""
    return name_of(rooms, led_by(rooms, list(turns) + [many]))
