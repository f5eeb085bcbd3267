"""lateriver/parting.py: point 141, and of point 2 (g)."""

import itertools

from lateriver.bags import added
from lateriver.errors import NoKey, NoLetter, NoMark, NoQuestion, NoSource
from lateriver.mills import Mill
from lateriver.parting import Parts, keys_of, parted_by
from lateriver.questions import Question
from lateriver.rivers import River
from tests.asking import ONE, THREE, TWO, Maker, deepest, many_terms, slow_answer, slow_columns
from tests.refusals import ANYTHING, Everything, RefusalCase, deep_tuple
from tests.test_finals import NEITHER, letter, question
from tests.test_mills import NO_HAPPENINGS
from tests.test_plain import RAIN, SNOW, SOURCES, WIND, X, Y, fold
from tests.test_rivers import told_of
from tests.test_sources import BAD as NO_SOURCES

KEYS = [(one, "z", other) for one in ("x", "y") for other in ("x", "y")]
KEY = ("x", "z", "x")
NO_KEYS = ANYTHING + [
    (), ("x",), ("x", "z"), ("x", "z", "x", "x"), ["x", "z", "x"], ("x", "x", "x"), ("z", "z", "x"), ("x", "z", "z"), ("x", "z", None),
    ("x", 0, "x"), ("rain", "wind", "snow"), (("x",), "z", "x"), ("x", ["z"], "x"), "xzx", ("x", "z", Everything()), Everything(), deep_tuple("x"),
    (0, 0, 0), ("x", "", "x"), {"x": 1, "z": 2}, ("X", "z", "x"),
]
SMALL = [
    ONE, TWO, THREE, (("a", (("x", 1), ("k", 1))), ("b", (("y", 1), ("l", 1)))), (("a", (("k", 1),)), ("b", (("l", 1),))),
]


def part_of(sources, key, one):
    columns = dict(sources)[one[0]]
    names = [name for name, _ in sources]
    return one[2][[name for name, _ in columns].index(key[names.index(one[0])])]


def slow_sum(sources, tree, letters, key):
    """The sum of the answers to the letters of each part alone."""
    total = {}
    for number in range(6):
        some = {one: count for one, count in letters.items() if part_of(sources, key, one) == number}
        total = added(total, slow_answer(sources, tree, some))
    return total


class PartedTest(RefusalCase):
    def parted(self, tree, *keys):
        """The question is parted by just these keys; letters show it of the others."""
        asked = question(tree)
        self.assertEqual(keys_of(asked), list(keys))
        for key in KEYS:
            letters = parted_by(asked, key)
            if key in keys:
                self.assertIsNone(letters)
            else:
                self.mixed(asked, key, letters)

    def mixed(self, asked, key, letters):
        self.assertIs(type(letters), list)
        self.assertEqual(letters, sorted(set(letters)))
        standing = {one: 1 for one in letters}
        told = slow_answer(asked.sources(), asked.tree(), standing)
        self.assertNotEqual(told, slow_sum(asked.sources(), asked.tree(), standing, key))

    def test_letters_that_never_count_together(self):
        for tree in [RAIN, ("both", RAIN, SNOW), ("keep", RAIN, ("below", X, Y)), ("shape", ("both", RAIN, RAIN), (("a", ("number", 1)),))]:
            self.parted(tree, *KEYS)

    def test_joins(self):
        self.parted(("join", RAIN, WIND, (("x", "z"),), -1, 2), ("x", "z", "x"), ("x", "z", "y"))
        self.parted(("join", RAIN, WIND, (("y", "z"),), -1, 2), ("y", "z", "x"), ("y", "z", "y"))
        self.parted(("join", RAIN, WIND, (), -1, 2))
        self.parted(("keep", ("join", RAIN, WIND, (), 3, 3), ("is", X, ("column", "z"))), ("x", "z", "x"), ("x", "z", "y"))
        self.parted(("keep", ("join", RAIN, WIND, (("x", "z"),), 3, 3), ("is", X, Y)), *KEYS)
        self.parted(("keep", ("join", RAIN, WIND, (), 3, 3), ("below", X, ("number", 0))), *KEYS)

    def test_windows(self):
        for window in [("pane", 5), ("slide", 2, 5), ("slide", 5, 2), ("visit", 3)]:
            self.parted(fold(window, ("x",)), ("x", "z", "x"), ("x", "z", "y"))
            self.parted(fold(window, ("y", "x")), *KEYS)
            self.parted(fold(window))
            self.parted(("fold", ("keep", RAIN, ("is", X, ("number", 1))), (), window, ()), ("x", "z", "x"), ("x", "z", "y"))
            joined = ("join", RAIN, WIND, (("x", "z"),), 2, 3)
            self.parted(("fold", joined, ("z",), window, ()), ("x", "z", "x"), ("x", "z", "y"))
            self.parted(("fold", joined, ("y",), window, ()))
            self.parted(("fold", ("both", RAIN, SNOW), ("x",), window, ()), ("x", "z", "x"))

    def test_alones(self):
        self.parted(("alone", RAIN, WIND, (("x", "z"),), 0, 1), ("x", "z", "x"), ("x", "z", "y"))
        self.parted(("alone", RAIN, WIND, (), 0, 1))
        self.parted(("alone", RAIN, ("keep", WIND, ("not", ("yes",))), (), 0, 1), *KEYS)
        # What brings its own partner is never told, whatever stands.
        self.parted(("alone", RAIN, ("shape", RAIN, (("a", X),)), (), -1, 1), *KEYS)
        self.parted(("alone", RAIN, ("shape", RAIN, (("a", X),)), (("x", "a"),), 1, 1), ("x", "z", "x"), ("x", "z", "y"))
        joined = ("join", RAIN, WIND, (), 0, 0)
        self.parted(("alone", joined, ("shape", joined, (("a", X),)), (), 0, 0), *KEYS)
        self.parted(("alone", joined, ("shape", joined, (("a", X),)), (("y", "a"),), 0, 0))
        self.parted(("alone", RAIN, ("join", ("shape", RAIN, (("a", X),)), WIND, (("a", "z"),), 0, 0), (("x", "a"),), 0, 0),
                    ("x", "z", "x"), ("x", "z", "y"))

    def test_partners_of_another_part_beside_some_of_its_own(self):
        # A partner of mixed letters brings one of the row's own part as well.
        mixed = ("join", SNOW, WIND, (), 0, 0)
        own = ("shape", SNOW, (("a", X), ("b", Y), ("c", X)))
        shaped = ("both", ("shape", mixed, (("a", X), ("b", Y), ("c", ("column", "z")))), own)
        self.parted(("alone", RAIN, shaped, (("x", "a"),), 0, 0), ("x", "z", "x"))
        self.parted(("alone", RAIN, ("shape", mixed, (("a", X),)), (("x", "a"),), 0, 0))

    def test_rows_that_have_no_partner_at_some_moments_alone(self):
        joined = ("join", RAIN, WIND, (), -3, 0)
        near = ("shape", ("join", RAIN, WIND, (), 0, 0), (("a", X),))
        self.parted(("alone", joined, near, (), 0, 0))
        self.parted(("alone", ("join", RAIN, WIND, (), 0, 0), near, (), 0, 0), *KEYS)
        self.parted(("alone", joined, ("keep", SNOW, ("not", ("yes",))), (), 0, 0))

    def test_partners_at_some_moments_alone(self):
        # Of what brings a partner the snow, which is of the row's own part, bars it but where it is too early.
        mixed = ("shape", ("join", SNOW, WIND, (), 3, 3), (("a", X),))
        other = ("both", mixed, ("shape", SNOW, (("a", X),)))
        self.parted(("alone", RAIN, other, (("x", "a"),), 0, 3))
        self.parted(("alone", RAIN, other, (("x", "a"),), 3, 6))
        self.parted(("alone", RAIN, ("both", ("shape", ("join", SNOW, WIND, (), 0, 0), (("a", X),)), other[2]), (("x", "a"),), 0, 3),
                    ("x", "z", "x"))

    def test_many_made_ones(self):
        counts = {}
        for number in range(450):
            maker = Maker(number, SMALL[number % 5])
            tree = self.made(maker)
            asked = Question(maker.sources, tree)
            every = sorted(itertools.product(*[[name for name, _ in columns] for _, columns in maker.sources]))
            self.assertEqual(keys_of(asked), [key for key in every if parted_by(asked, key) is None])
            for key in every:
                letters = parted_by(asked, key)
                counts[(tree[0] in ("alone", "fold"), letters is None)] = True
                if letters is not None:
                    self.mixed(asked, key, letters)
                    continue
                for _ in range(8):
                    some = maker.letters(10, maker.random.choice([2, 4, 8]))
                    told = slow_answer(maker.sources, tree, some)
                    self.assertEqual(slow_sum(maker.sources, tree, some, key), told, (number, key))
        self.assertEqual(len(counts), 4)

    def made(self, maker):
        """A flat tree, a fold or an alone; of the last sort the most, and some of which parts bar themselves."""
        word = maker.random.choice(["flat", "fold", "alone", "alone", "alone"])
        tree = {"flat": maker.flat, "fold": maker.fold, "alone": maker.alone}[word]()
        if word == "alone":
            columns = slow_columns(maker.sources, tree[1]), slow_columns(maker.sources, tree[2])
            if maker.random.random() < 0.6:
                pairs = tuple(pair for pair in itertools.product(*columns) if maker.random.random() < 0.5)
                tree = (*tree[:3], pairs, *tree[4:])
            if maker.random.random() < 0.3:
                other = maker.random.choice([tree[1], maker.both(tree[1], 0)])
                tree = ("alone", tree[1], other, (), *tree[4:])
        return tree if many_terms(tree) <= 12 and deepest(tree) <= 6 else self.made(maker)

    def test_questions_of_other_sorts_then_keys(self):
        for tree in NEITHER:
            self.refused(NoQuestion, keys_of, question(tree))
            for key in [KEY, None, ()]:
                self.refused(NoQuestion, parted_by, question(tree), key)
        for tree in [RAIN, fold(("visit", 5)), ("alone", RAIN, WIND, (), 0, 0), ("join", RAIN, WIND, (), 0, 0)]:
            for key in NO_KEYS:
                self.refused(NoKey, parted_by, question(tree), key)

    def test_what_is_told_is_the_askers_own(self):
        asked = question(("join", RAIN, WIND, (), -1, 2))
        before = list(parted_by(asked, KEY))
        parted_by(asked, KEY).clear()
        keys_of(question(RAIN)).clear()
        self.assertEqual(parted_by(asked, KEY), before)
        self.assertEqual(keys_of(question(RAIN)), KEYS)


class PartsTest(RefusalCase):
    trees = [RAIN, fold(("visit", 2), ("x",)), ("join", RAIN, WIND, (("x", "z"),), -1, 2), ("alone", RAIN, WIND, (("x", "z"),), 0, 1)]

    def parts_of(self, *trees):
        return Parts(SOURCES, [question(tree) for tree in trees], KEY)

    def all_of(self, parts):
        return parts.answers(), [told_of(parts.part(number)) for number in range(6)]

    def test_letters_go_to_their_part_alone(self):
        parts = self.parts_of(*self.trees)
        self.assertEqual(parts.take(letter("rain", 5, 1, 2))[0], [(5, (1, 2), 1)])
        self.assertEqual(parts.take(letter("rain", 6, 2, 2))[1], [(6, (2, 6, 7, 1), 1)])
        self.assertEqual(parts.take(letter("wind", 5, 1))[3], [(5, (1, 2), -1)])
        self.assertEqual(parts.take(("mark", "rain", 6)), [[], [], [], []])
        self.assertEqual(parts.take(letter("rain", 4, 0, 0)), [[], [], [], []])
        self.assertEqual(parts.take(("end", "snow")), [[], [], [], []])
        standing = [{}, {("rain", 5, (1, 2)): 1, ("wind", 5, (1,)): 1}, {("rain", 6, (2, 2)): 1}, {}, {}, {}]
        for number in range(6):
            river = parts.part(number)
            self.assertIsInstance(river, River)
            self.assertEqual(river.standing(), standing[number])
            self.assertEqual([river.mark(name) for name in ("rain", "wind", "snow")], [6, 0, None])
            self.assertEqual(river.late(), [("rain", 4, (0, 0))] if number == 0 else [])

    def test_parts_beside_one_mill(self):
        for number in range(200):
            maker = Maker(number, SMALL[number % 5])
            questions = [Question(maker.sources, maker.random.choice([maker.flat, maker.fold, maker.alone])()) for _ in range(2)]
            keys = [key for key in keys_of(questions[0]) if key in keys_of(questions[1])]
            if not keys:
                continue
            key = maker.random.choice(keys)
            parts, mill, total = Parts(maker.sources, questions, key), Mill(maker.sources, questions), {}
            for happening in maker.happenings(River(maker.sources), 16, 6):
                self.assertEqual(parts.take(happening), mill.take(happening))
                self.assertEqual(parts.answers(), mill.answers())
            for part in range(6):
                river = parts.part(part)
                for one, count in river.standing().items():
                    self.assertEqual(part_of(maker.sources, key, one), part)
                    total[one] = count
            self.assertEqual(total, mill.river().standing())

    def test_refused_as_a_mill_then_other_sorts_then_keys(self):
        good = [question(RAIN)]
        for sources in NO_SOURCES + ANYTHING + [Everything()]:
            self.refused(NoSource, Parts, sources, good, KEY)
            self.refused(NoSource, Parts, sources, None, None)
        for questions in [thing for thing in ANYTHING if thing != []] + [Everything(), tuple(good), [RAIN], [question(RAIN), None],
                                                                         [Question(SOURCES[:2], RAIN)]]:
            self.refused(NoQuestion, Parts, SOURCES, questions, KEY)
            self.refused(NoQuestion, Parts, SOURCES, questions, None)
        for tree in NEITHER:
            self.refused(NoQuestion, Parts, SOURCES, [question(RAIN), question(tree)], KEY)
            self.refused(NoQuestion, Parts, SOURCES, [question(tree)], None)
        for key in NO_KEYS:
            self.refused(NoKey, Parts, SOURCES, good, key)
            self.refused(NoKey, Parts, SOURCES, [], key)
        joined = question(("join", RAIN, WIND, (), -1, 2))
        self.refused(NoKey, Parts, SOURCES, [question(RAIN), joined], KEY)
        self.refused(NoKey, Parts, SOURCES, [question(fold(("pane", 5), ("y",)))], KEY)
        self.assertEqual(Parts(SOURCES, [], KEY).take(letter("rain", 5, 1, 2)), [])

    def test_refused_happenings(self):
        parts = self.parts_of(*self.trees)
        for happening in [letter("rain", 5, 1, 2), letter("wind", 5, 1), ("mark", "wind", 6), ("end", "snow")]:
            parts.take(happening)
        before = self.all_of(parts)
        for happening in NO_HAPPENINGS + ANYTHING + [("back", ("rain", 5, (2, 2))), ("back", ("wind", 5, (1,))), ("back", ("rain", 5, (1, 3)))]:
            self.refused(NoLetter, parts.take, happening)
        for happening in [("mark", "wind", 6), ("mark", "wind", 5), ("mark", "snow", 9), ("end", "snow")]:
            self.refused(NoMark, parts.take, happening)
        self.assertEqual(self.all_of(parts), before)
        self.assertEqual(parts.take(("back", ("rain", 5, (1, 2))))[0], [(5, (1, 2), -1)])

    def test_no_parts_numbers(self):
        parts = self.parts_of(RAIN)
        for number in [thing for thing in ANYTHING if thing not in (0, 1)] + [True, False, 6, 7, -1, "1", (1,), Everything()]:
            self.refused(NoKey, parts.part, number)

    def test_what_is_handed_in_is_not_kept_and_what_is_told_is_the_askers_own(self):
        questions = [question(tree) for tree in self.trees]
        parts = Parts(SOURCES, questions, KEY)
        questions.clear()
        told = parts.take(letter("rain", 5, 1, 2))
        before = self.all_of(parts)
        told[0].clear()
        parts.answers()[0].clear()
        parts.part(1).take(("end", "rain"))
        self.assertEqual(self.all_of(parts), before)
