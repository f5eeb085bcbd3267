"""lateriver/plain.py: point 51."""

import copy

from lateriver.errors import NoLetter, NoSpot
from lateriver.plain import answer_of, spot_of
from lateriver.questions import Question
from tests.asking import TWO, Maker, slow_answer
from tests.refusals import ANYTHING, Everything, RefusalCase, deep_tuple

SOURCES = (("rain", (("x", 2), ("y", 5))), ("wind", (("z", 2),)), ("snow", (("x", 2), ("y", 5))))
RAIN = ("source", "rain")
WIND = ("source", "wind")
SNOW = ("source", "snow")
X = ("column", "x")
Y = ("column", "y")

NO_SPOTS = [
    None, 0, True, "spot", (), (3,), (3, (1, 2), 1), [3, (1, 2)], (3, [1, 2]), ((1, 2), 3), (-1, (1, 2)), (3, (1,)),
    (3, (1, 2, 3)), (3, ()), (3, 1), (3, "12"), (3, (1, None)), (3, (1, True)), (3, (False, 1)), (True, (1, 2)),
    (None, (1, 2)), ("3", (1, 2)), (3, None), (3, ((1, 2),)), (3, {1: 2}), ((3,), (1, 2)), Everything(),
    (Everything(), (1, 2)), (3, Everything()), (3, (1, Everything())), deep_tuple(3), (3, deep_tuple(1)),
]
NO_FOLD_SPOTS = [
    None, 0, True, (), ((1,),), ((1,), 5, 1), [(1,), 5], ([1], 5), (5, (1,)), ((1,), -1), ((1,), -5), ((), 5),
    ((1, 2), 5), (1, 5), ("1", 5), ((None,), 5), ((True,), 5), ((1,), True), ((1,), None), ((1,), "5"), ((1,), (5,)),
    ((("x",),), 5), (None, 5), Everything(), (Everything(), 5), ((1,), Everything()), ((Everything(),), 5),
    deep_tuple(3), (deep_tuple(1), 5),
]
NO_LETTERS = [
    ("hail", 0, (1, 2)), ("rain", -1, (1, 2)), ("rain", True, (1, 2)), ("rain", 0, (3, 2)), ("rain", 0, (1, 6)),
    ("rain", 0, (1, -1)), ("rain", 0, (1,)), ("rain", 0, (1, 2, 3)), ("rain", 0, (1, True)), ("rain", 0), ("rain",), (),
    ("rain", 0, (1, 2), 1), ("wind", 0, (1, 2)), (0, "rain", (1, 2)), ("rain", "0", (1, 2)), None, "rain", 7, b"rain",
    ("rain", None, (1, 2)), ("x", 0, (1,)), deep_tuple("rain", 300),
]


def rain(*told):
    """Letters of rain: moment, x, y, count each."""
    return {("rain", m, (x, y)): count for m, x, y, count in told}


def wind(*told):
    return {("wind", m, (z,)): count for m, z, count in told}


def told(tree, *letters):
    return answer_of(Question(SOURCES, tree), {letter: count for some in letters for letter, count in some.items()})


def fold(window, keys=(), sums=()):
    return ("fold", RAIN, keys, window, sums)


class AnswerTest(RefusalCase):
    def test_source(self):
        self.assertEqual(told(RAIN), {})
        self.assertEqual(told(RAIN, rain((3, 1, 2, 1), (3, 1, 3, 4)), wind((3, 1, 2))), {(3, (1, 2)): 1, (3, (1, 3)): 4})
        self.assertEqual(told(WIND, rain((3, 1, 2, 1)), wind((0, 2, 2), (10 ** 9, 0, 1))),
                         {(0, (2,)): 2, (10 ** 9, (0,)): 1})

    def test_keep(self):
        letters = rain((0, 0, 5, 2), (0, 1, 1, 1), (7, 2, 1, 3))
        self.assertEqual(told(("keep", RAIN, ("below", Y, X)), letters), {(7, (2, 1)): 3})
        self.assertEqual(told(("keep", RAIN, ("yes",)), letters), {(0, (0, 5)): 2, (0, (1, 1)): 1, (7, (2, 1)): 3})
        self.assertEqual(told(("keep", RAIN, ("not", ("yes",))), letters), {})

    def test_shape(self):
        letters = rain((0, 0, 5, 2), (0, 1, 4, 1), (1, 1, 4, 3))
        self.assertEqual(told(("shape", RAIN, (("b", ("less", X, Y)), ("a", Y))), letters),
                         {(0, (-5, 5)): 2, (0, (-3, 4)): 1, (1, (-3, 4)): 3})
        self.assertEqual(told(("shape", RAIN, (("s", ("sum", X, Y)),)), letters), {(0, (5,)): 3, (1, (5,)): 3})

    def test_both(self):
        letters = rain((0, 0, 5, 2)), {("snow", 0, (0, 5)): 3, ("snow", 1, (0, 5)): 1}
        self.assertEqual(told(("both", RAIN, SNOW), *letters), {(0, (0, 5)): 5, (1, (0, 5)): 1})
        self.assertEqual(told(("both", RAIN, RAIN), *letters), {(0, (0, 5)): 4})

    def test_join(self):
        tree = ("join", RAIN, WIND, (("x", "z"),), -1, 2)
        letters = rain((5, 1, 2, 3)), wind((3, 1, 1), (4, 1, 1), (5, 1, 2), (6, 1, 1), (7, 1, 4), (8, 1, 1), (6, 2, 1))
        self.assertEqual(told(tree, *letters), {(5, (1, 2, 1)): 9, (6, (1, 2, 1)): 3, (7, (1, 2, 1)): 12})
        self.assertEqual(told(("join", WIND, RAIN, (), 0, 0), *letters), {(5, (1, 1, 2)): 6})
        self.assertEqual(told(("join", WIND, RAIN, (), -3, -3), *letters), {(8, (1, 1, 2)): 3})
        self.assertEqual(told(("join", WIND, RAIN, (), 3, 9), *letters), {})
        self.assertEqual(told(("join", WIND, RAIN, (("z", "x"), ("z", "y")), -3, 3), *letters), {})

    def test_join_with_itself(self):
        tree = ("join", RAIN, ("shape", RAIN, (("a", X),)), (), 0, 0)
        self.assertEqual(told(tree, rain((5, 1, 2, 3))), {(5, (1, 2, 1)): 9})

    def test_alone(self):
        tree = ("alone", RAIN, WIND, (("x", "z"),), -1, 2)
        letters = rain((5, 1, 2, 3), (5, 2, 2, 1))
        for moment, there in [(3, False), (4, True), (5, True), (6, True), (7, True), (8, False)]:
            expected = {(5, (2, 2)): 1} if there else {(5, (1, 2)): 3, (5, (2, 2)): 1}
            self.assertEqual(told(tree, letters, wind((moment, 1, 2))), expected)
        self.assertEqual(told(("alone", RAIN, WIND, (), 0, 0), letters, wind((5, 0, 1))), {})
        self.assertEqual(told(tree, letters), {(5, (1, 2)): 3, (5, (2, 2)): 1})

    def test_pane(self):
        letters = rain((0, 1, 2, 1), (4, 1, 3, 2), (5, 1, 0, 1), (9, 2, 5, 1), (10, 1, 1, 1))
        self.assertEqual(told(fold(("pane", 5)), letters), {(4, (0, 5, 3)): 1, (9, (5, 10, 2)): 1, (14, (10, 15, 1)): 1})
        self.assertEqual(told(fold(("pane", 5), ("x",)), letters), {
            (4, (1, 0, 5, 3)): 1, (9, (1, 5, 10, 1)): 1, (9, (2, 5, 10, 1)): 1, (14, (1, 10, 15, 1)): 1,
        })
        self.assertEqual(told(fold(("pane", 1)), rain((7, 1, 1, 4))), {(7, (7, 8, 4)): 1})
        self.assertEqual(told(fold(("pane", 20)), rain((39, 1, 1, 1), (40, 1, 1, 1))),
                         {(39, (20, 40, 1)): 1, (59, (40, 60, 1)): 1})

    def test_sums(self):
        letters = rain((0, 1, 2, 1), (4, 2, 3, 2), (3, 0, 5, 1))
        sums = (("total", "sum", "y"), ("low", "least", "x"), ("high", "most", "x"), ("most", "sum", "x"))[:3]
        self.assertEqual(told(fold(("pane", 5), (), sums), letters), {(4, (0, 5, 4, 13, 0, 2)): 1})
        self.assertEqual(told(fold(("pane", 5), ("y", "x"), sums), letters), {
            (4, (2, 1, 0, 5, 1, 2, 1, 1)): 1, (4, (3, 2, 0, 5, 2, 6, 2, 2)): 1, (4, (5, 0, 0, 5, 1, 5, 0, 0)): 1,
        })

    def test_slide(self):
        letters = rain((0, 1, 2, 1), (3, 1, 3, 2), (4, 1, 0, 1))
        self.assertEqual(told(fold(("slide", 4, 2)), letters),
                         {(3, (0, 4, 3)): 1, (5, (2, 6, 3)): 1, (7, (4, 8, 1)): 1})
        self.assertEqual(told(fold(("slide", 2, 3)), letters), {(1, (0, 2, 1)): 1, (4, (3, 5, 3)): 1})
        self.assertEqual(told(fold(("slide", 2, 3)), rain((2, 1, 1, 1), (5, 1, 1, 1))), {})
        self.assertEqual(told(fold(("slide", 3, 1)), rain((1, 1, 1, 1))), {(2, (0, 3, 1)): 1, (3, (1, 4, 1)): 1})
        self.assertEqual(told(fold(("slide", 3, 3)), rain((2, 1, 1, 1), (3, 1, 1, 1))),
                         told(fold(("pane", 3)), rain((2, 1, 1, 1), (3, 1, 1, 1))))

    def test_visit(self):
        letters = rain((2, 1, 2, 1), (5, 1, 3, 2), (9, 1, 0, 1), (9, 2, 0, 1))
        self.assertEqual(told(fold(("visit", 3)), letters), {(5, (2, 6, 3)): 1, (9, (9, 10, 2)): 1})
        self.assertEqual(told(fold(("visit", 4)), letters), {(9, (2, 10, 5)): 1})
        self.assertEqual(told(fold(("visit", 2)), letters),
                         {(2, (2, 3, 1)): 1, (5, (5, 6, 2)): 1, (9, (9, 10, 2)): 1})
        self.assertEqual(told(fold(("visit", 4), ("x",)), letters), {(9, (1, 2, 10, 4)): 1, (9, (2, 9, 10, 1)): 1})
        self.assertEqual(told(fold(("visit", 1)), rain((0, 0, 0, 1), (1, 0, 0, 1), (2, 0, 0, 1))), {(2, (0, 3, 3)): 1})

    def test_over_folds_and_alones(self):
        letters = rain((0, 1, 2, 1), (4, 1, 3, 2), (5, 1, 0, 1))
        many = ("column", "many")
        self.assertEqual(told(("keep", fold(("pane", 5)), ("is", many, ("number", 3))), letters), {(4, (0, 5, 3)): 1})
        self.assertEqual(told(("shape", fold(("slide", 5, 5), ("x", "y")), (("a", ("number", 0)),)), letters),
                         {(4, (0,)): 2, (9, (0,)): 1})
        self.assertEqual(told(("both", fold(("pane", 5)), fold(("pane", 5))), letters),
                         {(4, (0, 5, 3)): 2, (9, (5, 10, 1)): 2})
        self.assertEqual(told(("both", ("alone", RAIN, WIND, (), 0, 0), RAIN), letters, wind((5, 0, 1))),
                         {(0, (1, 2)): 2, (4, (1, 3)): 4, (5, (1, 0)): 1})

    def test_terms_that_can_tell_300_rows_and_more(self):
        big = (("a", (("u", 5), ("v", 5), ("w", 5))), ("b", (("x", 1),)))
        letters = {("a", u, (u, v, w)): 1 for u in range(6) for v in range(6) for w in range(6)}
        letters.update({("b", 5, (0,)): 1, ("b", 5, (1,)): 2})
        self.assertEqual(len(answer_of(Question(big, ("source", "a")), letters)), 216)
        joined = answer_of(Question(big, ("join", ("source", "a"), ("source", "b"), (), 0, 10)), letters)
        self.assertEqual((len(joined), sum(joined.values())), (432, 648))
        fewer = ("below", ("column", "u"), ("number", 5))
        tree = ("join", ("keep", ("source", "a"), fewer), ("source", "b"), (), 0, 10)
        self.assertEqual(len(answer_of(Question(big, tree), letters)), 360)

    def test_joins_on_one_way_down(self):
        tree = WIND
        for name, many in (("a", 3), ("b", 4), ("c", 5)):
            tree = ("join", tree, ("shape", WIND, ((name, ("column", "z")),)), (), 0, 1)
            self.assertEqual(sum(told(tree, wind((5, 1, 1), (6, 2, 1))).values()), many)

    def test_many_made_ones(self):
        for number in range(1500):
            maker = Maker(number)
            tree, letters = maker.tree(), maker.letters(10)
            before = copy.deepcopy(letters)
            with self.subTest(number=number):
                self.assertEqual(answer_of(Question(maker.sources, tree), letters),
                                 slow_answer(maker.sources, tree, letters))
                self.assertEqual(letters, before)

    def test_letters_of_sources_that_are_not_asked_change_nothing(self):
        letters = rain((1, 1, 1, 2))
        self.assertEqual(told(RAIN, letters, wind((1, 1, 1))), told(RAIN, letters))

    def test_what_are_no_letters(self):
        for letter in NO_LETTERS:
            for tree in (RAIN, WIND, fold(("pane", 5), ("x",))):
                self.refused(NoLetter, answer_of, Question(SOURCES, tree), {letter: 1})
                self.refused(NoLetter, answer_of, Question(SOURCES, tree), {("rain", 1, (1, 1)): 1, letter: 1})
        self.refused(NoLetter, answer_of, Question(TWO, ("source", "rain")), {("snow", 1, (1, 1)): 1})

    def test_what_is_told_is_the_askers_own(self):
        question, letters = Question(SOURCES, RAIN), rain((1, 1, 1, 2))
        answer_of(question, letters)[(1, (1, 1))] = 5
        self.assertEqual(answer_of(question, letters), {(1, (1, 1)): 2})
        self.assertEqual(letters, rain((1, 1, 1, 2)))


class SpotTest(RefusalCase):
    def test_counts(self):
        question = Question(SOURCES, RAIN)
        letters = rain((3, 1, 2, 4))
        for where, count in [((3, (1, 2)), 4), ((3, (2, 1)), 0), ((2, (1, 2)), 0), ((3, (-1, 10 ** 9)), 0), ((10 ** 9, (1, 2)), 0)]:
            self.assertEqual(spot_of(question, letters, where), count)

    def test_rows_of_folds(self):
        question = Question(SOURCES, fold(("pane", 5), ("x",), (("a", "sum", "y"),)))
        letters = rain((3, 1, 2, 4))
        for where, row in [(((1,), 0), (1, 0, 5, 4, 8)), (((0,), 0), None), (((1,), 5), None), (((1,), 3), None),
                           (((-7,), 0), None), (((1,), 10 ** 9), None)]:
            self.assertEqual(spot_of(question, letters, where), row)
        question = Question(SOURCES, fold(("visit", 2)))
        self.assertEqual(spot_of(question, letters, ((), 3)), (3, 4, 4))
        self.assertIsNone(spot_of(question, letters, ((), 2)))

    def test_counts_of_what_is_over_a_fold(self):
        letters = rain((3, 1, 2, 4))
        kept = Question(SOURCES, ("keep", fold(("pane", 5), ("x",)), ("yes",)))
        self.assertEqual(spot_of(kept, letters, (4, (1, 0, 5, 4))), 1)
        self.assertEqual(spot_of(kept, letters, (0, (1, 0, 5, 4))), 0)
        self.refused(NoSpot, spot_of, kept, letters, ((1,), 0))

    def test_many_made_ones(self):
        for number in range(300):
            maker = Maker(number)
            tree, letters = maker.tree(), maker.letters(10)
            question = Question(maker.sources, tree)
            for (moment, row), count in answer_of(question, letters).items():
                if tree[0] == "fold":
                    keys = len(tree[2])
                    self.assertEqual(spot_of(question, letters, (row[:keys], row[keys])), row)
                else:
                    self.assertEqual(spot_of(question, letters, (moment, row)), count)

    def test_what_is_no_spot_is_told_ahead_of_all(self):
        question, folded = Question(SOURCES, RAIN), Question(SOURCES, fold(("pane", 5), ("x",)))
        for letters in (rain((3, 1, 2, 4)), {None: 1}, {("rain", 0, (9, 9)): 1}):
            for where in NO_SPOTS + ANYTHING:
                self.refused(NoSpot, spot_of, question, letters, where)
            for where in NO_FOLD_SPOTS + ANYTHING:
                self.refused(NoSpot, spot_of, folded, letters, where)
        self.refused(NoSpot, spot_of, Question(SOURCES, fold(("pane", 5))), {}, ((1,), 0))

    def test_what_are_no_letters(self):
        for letter in NO_LETTERS:
            self.refused(NoLetter, spot_of, Question(SOURCES, RAIN), {letter: 1}, (3, (1, 2)))
            self.refused(NoLetter, spot_of, Question(SOURCES, fold(("visit", 5))), {letter: 1}, ((), 3))
