"""A desk at which a shop is handled by rows of text."""

from breathrows.errors import (
    BadRooms, BadRow, BadText, Known, NoBellows, NoGap, NoRow, Open, Sealed, TooLong, Unlike)
from breathrows.far import far
from breathrows.fewest import fewest
from breathrows.names import name_of
from breathrows.rows import is_standing
from breathrows.shop import Shop
from breathrows.still import stands
from breathrows.texts import number_end, word_in, word_text

LETTERS = "abcdefghijklmnopqrstuvwxyz"
LONGEST_NAME = 6

# What stands behind the first word of a row, in its order. What is read by ROOMS, RUNS
# or NUMBERS is one word at least, and all that are left.
SHAPES = {
    "build": ("NAME", "ROOMS"), "raze": ("NAME",), "breathe": ("NAME", "RUNS"),
    "seal": ("NAME", "NUMBER"), "scrape": ("NAME", "NUMBER"), "saw": ("NAME", "NAME", "NUMBER"),
    "lengthen": ("NAME", "NAME"), "undo": (), "lies": ("NAME",), "still": ("NAME", "RUNS"),
    "far": ("NAME", "NUMBER", "RUNS"), "name": ("NAME",), "road": ("NAME", "NUMBERS")}


def name_read(word):
    """The name that the word is, None where it's none."""
    if not 1 <= len(word) <= LONGEST_NAME or not all([sign in LETTERS for sign in word]):
        return None
    return word


def number_read(word):
    """The number that the word is, None where it's none."""
    if word == "" or number_end(word, 0) != len(word):
        return None
    return int(word)


def numbers_read(words, least):
    """The tuple of the numbers that the words are, None where one is none or less than that."""
    numbers = [number_read(word) for word in words]
    if not all([number is not None and number >= least for number in numbers]):
        return None
    return tuple(numbers)


def runs_read(words):
    """The WORD whose runs the words are, None where they're none."""
    try:
        runs = word_in(" ".join(words))
    except BadText:
        return None
    # One empty word alone would be the text of the word of no runs.
    return runs if runs else None


def rest_read(kind, words):
    """What all words that are left are, None where they aren't of this kind."""
    if kind == "RUNS":
        return runs_read(words)
    return numbers_read(words, 1 if kind == "ROOMS" else 0)


def row_read(line):
    """The list of the row's first word and what is handed with it, None where it isn't so written."""
    words = line.split(" ")
    if words[0] not in SHAPES:
        return None
    told = [words[0]]
    left = words[1:]
    for kind in SHAPES[words[0]]:
        if not left:
            return None
        if kind == "NAME":
            told.append(name_read(left[0]))
        elif kind == "NUMBER":
            told.append(number_read(left[0]))
        else:
            told.append(rest_read(kind, left))
        left = left[1:] if kind in ("NAME", "NUMBER") else []
    return None if left or None in told else told


def listed(things):
    """The things parted by blanks, a gasp as its sign."""
    if not things:
        return "-"
    return " ".join(["~" if thing is None else str(thing) for thing in things])


def open_part(shop, name):
    """The rooms and the standing of the row's open bellows; NoRow, BadRooms where there are none."""
    row = shop.row_of(name)
    shut = row.sealed()
    pairs = list(zip(row.rooms(), row.standing()))
    unsealed = [pair for at, pair in enumerate(pairs) if at not in shut]
    if not unsealed:
        raise BadRooms()
    return tuple([room for room, many in unsealed]), tuple([many for room, many in unsealed])


def still_told(shop, name, word):
    """How often the word moves the row's open bellows, and how they stand then."""
    rooms, standing = open_part(shop, name)
    many, told = stands(rooms, standing, word)
    return listed([many, *told])


def far_told(shop, name, many, word):
    """How the row's open bellows stand behind so many words."""
    rooms, standing = open_part(shop, name)
    return listed(far(rooms, standing, word, many))


def name_told(shop, name):
    """The turns that lead to the standing of the row's open bellows."""
    rooms, standing = open_part(shop, name)
    return listed(name_of(rooms, standing))


def road_told(shop, name, goal):
    """The word of the fewest breaths from the standing of the row's open bellows to the goal."""
    rooms, standing = open_part(shop, name)
    if not is_standing(rooms, goal):
        raise BadRooms()
    word = fewest(rooms, standing, goal)[1]
    return word_text(word) if word else "-"


def told_by(shop, word, things):
    """What is told of a row of this first word, handed these things."""
    if word == "undo":
        return "done" if shop.undo() else "nothing"
    if word == "lies":
        return str(shop.row_of(*things))
    if word == "still":
        return still_told(shop, *things)
    if word == "far":
        return far_told(shop, *things)
    if word == "name":
        return name_told(shop, *things)
    if word == "road":
        return road_told(shop, *things)
    told = shop.deed_done(word, things)
    return listed(told) if word == "breathe" else "done"


def answer(shop, row):
    """What is told of one row, or by what it's refused."""
    word, *things = row
    try:
        return told_by(shop, word, things)
    except BadRooms:
        return "refused BadRooms"
    except Known:
        return "refused Known"
    except NoBellows:
        return "refused NoBellows"
    except NoGap:
        return "refused NoGap"
    except NoRow:
        return "refused NoRow"
    except Open:
        return "refused Open"
    except Sealed:
        return "refused Sealed"
    except TooLong:
        return "refused TooLong"
    except Unlike:
        return "refused Unlike"


def answers(text):
    """The list of what is told of each row; BadRow, ahead of all, of the first that isn't so written."""
    rows = [row_read(line) for line in text.split("\n")]
    for at, row in enumerate(rows):
        if row is None:
            raise BadRow(at)
    shop = Shop()
    return [answer(shop, row) for row in rows]
