"""The left hand's way from one standing to another, turn by turn."""


def left_way(rooms, one, other):
    """The triples (bellows, breath, many) of the turns of the left hand's fewest breaths.

    The bellows is the one in which the last breath of the turn lands.
    """
    way = []
    lying = list(one)
    # A turn leaves all bellows ahead full, or bare, so what lies furthest to the right is
    # to be put right first: whatever is done for it later undoes what stands ahead of it.
    for at in reversed(range(len(rooms))):
        if lying[at] < other[at]:
            many = sum(rooms[:at]) - sum(lying[:at]) + other[at] - lying[at]
            way.append((at, "L+", many))
            lying[:at] = list(rooms[:at])
        elif lying[at] > other[at]:
            many = sum(lying[:at]) + lying[at] - other[at]
            way.append((at, "L-", many))
            lying[:at] = [0] * at
    return way
