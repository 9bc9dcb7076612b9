"""Rooms of a row of bellows, and standings: how many slips lie in each."""

from breathrows.errors import NoPlace


def is_number(thing):
    """Whether it's a whole number; True and False are none."""
    return isinstance(thing, int) and not isinstance(thing, bool)


def is_rooms(thing):
    """Whether it's a tuple of numbers from 1 on, one at least."""
    if not isinstance(thing, tuple) or thing == ():
        return False
    return all([is_number(room) and room >= 1 for room in thing])


def is_standing(rooms, thing):
    """Whether it's a tuple of as many numbers, each from 0 to its room."""
    if not isinstance(thing, tuple) or len(thing) != len(rooms):
        return False
    return all([is_number(many) and 0 <= many <= room for room, many in zip(rooms, thing)])


def bare(rooms):
    """The standing of noughts."""
    return (0,) * len(rooms)


def full(rooms):
    """The standing of as many slips as there is room for."""
    return tuple(rooms)


def lacking(rooms, standing):
    """The standing of as many as each bellows lacks to be full."""
    return tuple([room - many for room, many in zip(rooms, standing)])


def how_many(rooms):
    """How many standings there are."""
    product = 1
    for room in rooms:
        product *= room + 1
    return product


def place_of(rooms, standing):
    """The place of the standing among all of them, rising."""
    # Rising tuples go by their first numbers first, so a standing is read as
    # one number whose figures have bases of their own, the leftmost weighing most.
    place = 0
    for room, many in zip(rooms, standing):
        place = place * (room + 1) + many
    return place


def standing_at(rooms, place):
    """The standing that has this place; NoPlace where none has it."""
    if not 0 <= place < how_many(rooms):
        raise NoPlace(place)
    from_right = []
    rest = place
    for room in reversed(rooms):
        rest, many = divmod(rest, room + 1)
        from_right.append(many)
    return tuple(from_right[::-1])
