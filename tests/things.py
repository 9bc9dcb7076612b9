"""Things of every kind that may be handed in as a thing."""


def nested(inner, kind, depth):
    """Inner within so many lists or tuples of one."""
    for _ in range(depth):
        inner = kind([inner])
    return inner


def is_plain_number(thing):
    return type(thing) is int


NUMBERS = [-10 ** 30, -2, -1, 0, 1, 2, 3, 99, 100, 10 ** 30]
TEXTS = ["", "1", "(1,)", "1 2", "L+", "abc"]
SINGLE = NUMBERS + [True, False, None] + TEXTS
LISTS = [[], [1], [0], [1, 2, 3], [(1,)], [[1]], [True], [None], ["1"]]
MIXED = [(1, None), (1, "2"), (1, True), (False, 1), (1, [2]), ([1], 2), (1, (2,)), ((1,), 2), ((), ()), ([], [])]
DEEP = [nested(leaf, kind, depth) for leaf in (1, True, None, "a") for kind in (list, tuple) for depth in range(2, 9)]

# None of these is rooms or a standing of anything.
NEITHER = SINGLE + LISTS + MIXED + DEEP
