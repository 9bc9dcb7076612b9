"""What [1] promises above all, (a) to (i), on small rows gone through whole and on great ones."""

import ast
import inspect
import pathlib
import random
import unittest

import slow
from breathrows import errors
from breathrows.breaths import breathed, heard
from breathrows.desk import answers
from breathrows.far import far, winds_far
from breathrows.fewest import fewest, fewest_left, fewest_right, how_few
from breathrows.gaps import aheads, at_gap, crossed, winds
from breathrows.mates import mates
from breathrows.names import is_name, led_by, name_of
from breathrows.rows import bare, full, lacking
from breathrows.shop import Shop
from breathrows.slips import Row
from breathrows.still import greatest_still, least_still, stands, stays, stills, wind_of
from breathrows.tables import Table
from breathrows.widths import is_below, width, widths
from breathrows.words import contrary, size_of
from handed import kinds
from shop_by_rule import all_of, made_anew, told_or_refused
from slow import BREATHS, all_standings, breaths_of, runs_of, some_rooms, some_standing, some_word

GREAT = 10 ** 9
OFTEN = 10 ** 12
SMALL = [(1,), (4,), (1, 1), (2, 1), (1, 3), (2, 2), (1, 1, 1), (1, 2, 1)]
PACKAGE = pathlib.Path(__file__).resolve().parent.parent / "breathrows"

# Each file of the interface, with the arguments of each function and method.
INTERFACE = {
    "rows": {"is_rooms": "thing", "is_standing": "rooms thing", "bare": "rooms", "full": "rooms",
             "lacking": "rooms standing", "how_many": "rooms", "place_of": "rooms standing",
             "standing_at": "rooms place"},
    "words": {"is_word": "thing", "plain": "word", "size_of": "word", "nets": "word", "turned": "word",
              "contrary": "word", "begun": "word many"},
    "breaths": {"lands": "rooms standing breath", "breathed": "rooms standing word", "heard": "rooms standing word"},
    "gaps": {"at_gap": "rooms standing gap", "aheads": "rooms standing", "standing_by": "rooms numbers",
             "crossed": "rooms standing word gap", "winds": "rooms standing word"},
    "far": {"far": "rooms standing word many", "winds_far": "rooms standing word many", "parted": "rooms one other"},
    "still": {"stands": "rooms standing word", "stays": "rooms standing word", "least_still": "rooms word",
              "greatest_still": "rooms word", "stills": "rooms word", "made_one": "rooms word",
              "wind_of": "rooms standing word"},
    "widths": {"width": "rooms one other", "widest": "rooms one other", "widths": "rooms one other words",
               "is_below": "rooms one other", "between": "rooms one other"},
    "names": {"led_by": "rooms turns", "name_of": "rooms standing", "is_name": "rooms thing",
              "depths": "rooms standing", "named_so": "rooms many", "first_over": "rooms standing gap",
              "with_turn": "rooms turns many"},
    "fewest": {"fewest_left": "rooms one other", "fewest_right": "rooms one other", "how_few": "rooms one other",
               "fewest": "rooms one other", "shows_fewest": "rooms one other thing", "nearer": "rooms one other"},
    "mates": {"mates": "rooms word", "left_lying": "rooms word", "shows_mates": "rooms word thing"},
    "texts": {"word_text": "word", "word_in": "text", "row_text": "rooms standing", "row_in": "text"},
    "desk": {"answers": "text"},
}


def all_that_words_do(rooms):
    """One word for each of all the ways in which any words, however long, lead the standings of the row."""
    standings = all_standings(rooms)
    told = {tuple(standings): []}
    waiting = [tuple(standings)]
    while waiting:
        behind = waiting.pop(0)
        for breath in BREATHS:
            further = tuple(slow.behind(rooms, standing, [(breath, 1)]) for standing in behind)
            if further not in told:
                told[further] = told[behind] + [breath]
                waiting.append(further)
    return [(dict(zip(standings, behind)), runs_of(breaths)) for behind, breaths in told.items()]


class SmallRows(unittest.TestCase):
    """(a) to (d): all that any words can do to a small row."""

    def test_at_each_gap_just_two_bellows_told_by_a_table(self):
        for rooms in SMALL:
            for led, word in all_that_words_do(rooms):
                for gap in range(len(rooms) + 1):
                    table = Table(rooms, gap, word)
                    by_pair = {}
                    for standing, behind in led.items():
                        pair, due = at_gap(rooms, standing, gap), at_gap(rooms, behind, gap)
                        self.assertEqual(by_pair.setdefault(pair, due), due)
                        self.assertEqual(table.leads(pair), due)

    def test_tables_put_together(self):
        chance = random.Random(201)
        for rooms in SMALL:
            words = all_that_words_do(rooms)
            for led, one in words:
                more_led, other = chance.choice(words)
                gap = chance.randint(0, len(rooms))
                table = Table(rooms, gap, one).then(Table(rooms, gap, other))
                self.assertTrue(table == Table(rooms, gap, one + other))
                often = Table(rooms, gap, one).times(OFTEN)
                for standing, behind in led.items():
                    self.assertEqual(table.leads(at_gap(rooms, standing, gap)), at_gap(rooms, more_led[behind], gap))
                    self.assertEqual(often.leads(at_gap(rooms, standing, gap)),
                                     at_gap(rooms, far(rooms, standing, one, OFTEN), gap))

    def test_any_word_comes_to_stand_still(self):
        for rooms in SMALL:
            for led, word in all_that_words_do(rooms):
                least, greatest = least_still(rooms, word), greatest_still(rooms, word)
                for standing in led:
                    lying, many = standing, 0
                    while led[lying] != lying:
                        lying = led[lying]
                        many += 1
                        # Were there a round, it would never end.
                        self.assertLessEqual(many, sum(rooms))
                    self.assertEqual(stands(rooms, standing, word), (many, lying))
                    self.assertEqual(far(rooms, standing, word, OFTEN), lying)
                    self.assertTrue(is_below(rooms, least, lying) and is_below(rooms, lying, greatest))
                    self.assertEqual(winds(rooms, lying, word), [wind_of(rooms, lying, word)] * (len(rooms) + 1))
                self.assertEqual(stands(rooms, bare(rooms), word)[1], least)
                self.assertEqual(stands(rooms, full(rooms), word)[1], greatest)
                self.assertEqual(stills(rooms, word), [standing for standing in led if led[standing] == standing])

    def test_handled_alike_never_further_apart(self):
        for rooms in SMALL[:6]:
            apart = {(one, other): width(rooms, one, other) for one in all_standings(rooms)
                     for other in all_standings(rooms)}
            for led, _ in all_that_words_do(rooms):
                for (one, other), far_apart in apart.items():
                    self.assertLessEqual(apart[led[one], led[other]], far_apart)

    def test_one_hand_alone_and_names(self):
        for rooms in SMALL:
            for one in all_standings(rooms):
                left, right = slow.layers(rooms, one, ("L+", "L-")), slow.layers(rooms, one, ("R+", "R-"))
                self.assertEqual(sorted(left), all_standings(rooms))
                for other in left:
                    self.assertEqual([runs_of(words) for words in left[other]], [fewest_left(rooms, one, other)])
                    self.assertEqual([runs_of(words) for words in right[other]], [fewest_right(rooms, one, other)])
            names = [name_of(rooms, standing) for standing in all_standings(rooms)]
            self.assertEqual([led_by(rooms, turns) for turns in names], all_standings(rooms))
            self.assertTrue(all(is_name(rooms, turns) for turns in names))

    def test_both_hands(self):
        for rooms in SMALL:
            for one in all_standings(rooms):
                for other, words in slow.layers(rooms, one, BREATHS).items():
                    least = min(size_of(fewest_left(rooms[:gap], one[:gap], other[:gap])) +
                                size_of(fewest_right(rooms[gap:], one[gap:], other[gap:]))
                                for gap in range(len(rooms) + 1))
                    self.assertEqual((how_few(rooms, one, other), least), (len(words[0]), len(words[0])))

    def test_counterparts(self):
        for rooms in SMALL:
            for standing in all_standings(rooms):
                for breath in BREATHS:
                    for gap in range(len(rooms) + 1):
                        one, other = self.lying(rooms, standing), self.lying(rooms, lacking(rooms, standing))
                        for _ in range(2):
                            one.breathe(breath, 7)
                            other.breathe(contrary([(breath, 1)])[0][0], 8)
                            self.assertEqual(other.standing(), lacking(rooms, one.standing()))
                            one.saw(other, gap)
                            self.assertEqual(other.standing(), lacking(rooms, one.standing()))

    def lying(self, rooms, standing):
        """A Row that stands so."""
        row = Row(rooms)
        for slip, breath in enumerate(breaths_of(fewest(rooms, bare(rooms), standing)[1])):
            row.breathe(breath, slip)
        self.assertEqual(row.standing(), standing)
        return row

    def test_how_many_lie_where_hangs_on_no_slip(self):
        for rooms in SMALL:
            for led, word in all_that_words_do(rooms):
                row = Row(rooms)
                where = {}
                for number, breath in enumerate(breaths_of(word)):
                    row.breathe(breath, number)
                    for at, slips in enumerate(row.lies()):
                        for slip in slips:
                            self.assertEqual(where.setdefault(slip, at), at)
                self.assertEqual(row.standing(), led[bare(rooms)])
                told = {into: at for into, at, _ in mates(rooms, word) if at is not None}
                self.assertEqual(told, where)


class GreatRows(unittest.TestCase):
    def some(self, seed, many):
        """Rows of 12 bellows, two standings, a word."""
        chance = random.Random(seed)
        for _ in range(many):
            rooms = some_rooms(chance, 12, 99)
            word = some_word(chance, chance.choice([3, 12, 40]), chance.choice([3, 99, GREAT]))
            yield chance, rooms, some_standing(chance, rooms), some_standing(chance, rooms), word

    def test_at_each_gap_just_two_bellows(self):
        for _, rooms, one, _, word in self.some(211, 20):
            behind = breathed(rooms, one, word)
            for gap in range(1, 12):
                two, pair = (sum(rooms[:gap]), sum(rooms[gap:])), at_gap(rooms, one, gap)
                self.assertEqual(breathed(two, pair, word), at_gap(rooms, behind, gap))
                self.assertEqual(heard(two, pair, word), heard(rooms, one, word))
                self.assertEqual(crossed(two, pair, word, 1), crossed(rooms, one, word, gap))

    def test_tables_put_together(self):
        for chance, rooms, one, _, word in self.some(212, 4):
            more, gap = some_word(chance, 5, 99), chance.randint(0, 12)
            table = Table(rooms, gap, word).times(OFTEN).then(Table(rooms, gap, more))
            behind = breathed(rooms, far(rooms, one, word, OFTEN), more)
            self.assertEqual(table.leads(at_gap(rooms, one, gap)), at_gap(rooms, behind, gap))

    def test_any_word_comes_to_stand_still(self):
        for _, rooms, one, _, word in self.some(213, 20):
            many, still = stands(rooms, one, word)
            self.assertLessEqual(many, sum(rooms))
            self.assertTrue(stays(rooms, still, word))
            self.assertEqual(far(rooms, one, word, many), still)
            self.assertTrue(many == 0 or far(rooms, one, word, many - 1) != still)
            least, greatest = least_still(rooms, word), greatest_still(rooms, word)
            self.assertTrue(is_below(rooms, least, still) and is_below(rooms, still, greatest))
            self.assertEqual(winds(rooms, still, word), [wind_of(rooms, still, word)] * 13)
            blown = [all_of_them - wind_of(rooms, still, word) * (OFTEN - many)
                     for all_of_them in winds_far(rooms, one, word, OFTEN)]
            self.assertEqual(winds_far(rooms, one, word, many), blown)

    def test_handled_alike_never_further_apart(self):
        for _, rooms, one, other, word in self.some(214, 40):
            told = widths(rooms, one, other, [[run] for run in word])
            self.assertEqual(told, sorted(told, reverse=True))

    def test_one_hand_alone_names_and_both_hands(self):
        for _, rooms, one, other, _ in self.some(215, 40):
            left, right = fewest_left(rooms, one, other), fewest_right(rooms, one, other)
            self.assertEqual(breathed(rooms, one, left), other)
            self.assertEqual(breathed(rooms, one, right), other)
            self.assertEqual(led_by(rooms, name_of(rooms, one)), one)
            gap, word = fewest(rooms, one, other)
            self.assertEqual(breathed(rooms, one, word), other)
            self.assertTrue(how_few(rooms, one, other) == size_of(word) <= min(size_of(left), size_of(right)))
            sizes = [size_of(fewest_left(rooms[:at], one[:at], other[:at])) +
                     size_of(fewest_right(rooms[at:], one[at:], other[at:])) for at in range(13)]
            self.assertEqual((gap, size_of(word)), (sizes.index(min(sizes)), min(sizes)))

    def test_counterparts(self):
        for chance, rooms, one, _, word in self.some(216, 20):
            other = lacking(rooms, one)
            for run in word:
                one, other = breathed(rooms, one, [run]), breathed(rooms, other, contrary([run]))
                self.assertEqual(other, lacking(rooms, one))
                gap = chance.randint(0, 12)
                one, other = one[:gap] + other[gap:], other[:gap] + one[gap:]
                self.assertEqual(other, lacking(rooms, one))
            self.assertEqual(aheads(rooms, one)[-1] + aheads(rooms, other)[-1], sum(rooms))

    def test_a_slip_lies_still(self):
        for chance, rooms, _, _, _ in self.some(217, 4):
            word = some_word(chance, 40, 10)
            row, brought = Row(rooms), {}
            for number, breath in enumerate(breaths_of(word)):
                told = row.breathe(breath, number)
                if breath[1] == "-" and told is not None:
                    brought[told] = number
            self.assertEqual(row.standing(), breathed(rooms, bare(rooms), word))
            self.assertEqual(brought, {into: out for into, _, out in mates(rooms, word) if out is not None})

    def test_a_shop_of_six_great_rows(self):
        chance = random.Random(218)
        shop, done = Shop(), []
        for name in "abcdef":
            done.append(("build", name, (99,) * 12))
        done += [("breathe", chance.choice("abcdef"), some_word(chance, 40, 10)) for _ in range(40)]
        done += [("saw", *chance.sample("abcdef", 2), chance.randint(0, 12)) for _ in range(10)]
        done += [("breathe", chance.choice("abcdef"), some_word(chance, 40, 10)) for _ in range(20)]
        for deed in done:
            told_or_refused(getattr(shop, deed[0]), *deed[1:])
            told_or_refused(shop.build, "a", (1,))
            told_or_refused(shop.lengthen, "a", "b")
            told_or_refused(shop.do, [("breathe", "b", [("L+", 9)]), ("seal", "b", 12)])
        for many in range(0, len(done), 15):
            anew = made_anew(done[:len(done) - many])
            self.assertTrue(shop == anew)
            self.assertEqual(kinds(all_of(shop)[:5]), kinds(all_of(anew)[:5]))
            for _ in range(15):
                shop.undo()


class Interface(unittest.TestCase):
    def test_functions_and_their_arguments(self):
        for file, functions in INTERFACE.items():
            module = __import__("breathrows." + file, fromlist=["any"])
            for name, arguments in functions.items():
                function = getattr(module, name)
                self.assertEqual(function.__module__, module.__name__)
                self.assertEqual(list(inspect.signature(function).parameters), arguments.split(), (file, name))

    def test_classes_stand_in_their_files(self):
        self.assertEqual([made.__module__ for made in (Table, Row, Shop)],
                         ["breathrows.tables", "breathrows.slips", "breathrows.shop"])

    def test_each_refusal_of_the_package_is_used(self):
        raised = set()
        for path in PACKAGE.glob("*.py"):
            for node in ast.walk(ast.parse(path.read_text("utf-8"))):
                if isinstance(node, ast.Raise) and isinstance(node.exc, ast.Call):
                    raised.add(node.exc.func.id)
        named = {name for name, made in vars(errors).items() if isinstance(made, type)}
        self.assertEqual(raised, named)
        self.assertEqual(len(named), 15)

    def test_a_desk_and_a_shop_tell_the_same(self):
        shop = Shop()
        shop.build("a", (2, 1, 3))
        shop.breathe("a", [("L+", 4), ("L-", 1)])
        self.assertEqual(answers("build a 2 1 3\nbreathe a L+4 L-1\nlies a"), ["done", "1", str(shop.row_of("a"))])


if __name__ == "__main__":
    unittest.main()
