"""Words and standings as texts, and back."""

from breathrows.errors import BadText
from breathrows.words import BREATHS

FIGURES = "0123456789"
MOST_FIGURES = 10


def number_end(text, at):
    """Where the longest number that begins there ends; there itself where none begins."""
    if text[at:at + 1] == "0":
        return at + 1
    end = at
    while end < min(len(text), at + MOST_FIGURES) and text[end] in FIGURES:
        end += 1
    return end


def blank_passed(text, at):
    """What stands behind the blank that must stand there."""
    if text[at] != " ":
        raise BadText(at)
    return at + 1


def word_text(word):
    """The runs, parted by blanks, each the breath and straight behind it how many."""
    return " ".join([f"{breath}{many}" for breath, many in word])


def run_at(text, at):
    """The run that begins there, and where it ends."""
    start = at + 2
    breath = text[at:start]
    if breath not in BREATHS:
        raise BadText(at + 1 if breath[:1] in ("L", "R") else at)
    end = number_end(text, start)
    if end == start or text[start] == "0":
        raise BadText(start)
    return (breath, int(text[start:end])), end


def word_in(text):
    """The word of just this text; BadText."""
    word = []
    at = 0
    while at < len(text):
        if word:
            at = blank_passed(text, at)
        run, at = run_at(text, at)
        word.append(run)
    return word


def row_text(rooms, standing):
    """How many lie in each bellows, and its room, parted by blanks."""
    return " ".join([f"{many}/{room}" for room, many in zip(rooms, standing)])


def might_reach(figures, many):
    """Whether a room that begins with these figures can be as great as many."""
    return int(figures + "9" * (MOST_FIGURES - len(figures))) >= many


def bellows_at(text, at):
    """The room and how many lie in it, of the bellows that begins there, and where it ends."""
    slash = number_end(text, at)
    if slash == at or text[slash:slash + 1] != "/":
        raise BadText(slash)
    many = int(text[at:slash])
    start = slash + 1
    end = number_end(text, start)
    if end == start or text[start] == "0":
        raise BadText(start)
    if int(text[start:end]) < many:
        # As far as more figures might still have made it great enough it was right.
        right = [upto for upto in range(start + 1, end + 1) if might_reach(text[start:upto], many)]
        raise BadText(start + len(right))
    return int(text[start:end]), many, end


def row_in(text):
    """The pair of rooms and standing of just this text; BadText."""
    rooms = []
    standing = []
    at = 0
    while at < len(text) or not rooms:
        if rooms:
            at = blank_passed(text, at)
        room, many, at = bellows_at(text, at)
        rooms.append(room)
        standing.append(many)
    return tuple(rooms), tuple(standing)
