"""lateriver/questions.py, but the texts: point 31, and of point 3 how many terms a question may have."""

import copy

from lateriver.errors import NoQuestion, NoSource
from lateriver.questions import Question
from tests.asking import THREE, Maker, many_terms, slow_columns
from tests.refusals import ANYTHING, Everything, RefusalCase, deep_tuple
from tests.test_sources import BAD as NO_SOURCES

SOURCES = (("rain", (("x", 2), ("y", 5))), ("wind", (("z", 1),)), ("snow", (("x", 2), ("y", 3))))
RAIN = ("source", "rain")
WIND = ("source", "wind")
SNOW = ("source", "snow")
X = ("column", "x")
Y = ("column", "y")
ONE = ("number", 1)
YES = ("yes",)
LOW_X = ("below", X, ONE)
KEPT = ("keep", RAIN, LOW_X)
SHAPED = ("shape", RAIN, (("a", X), ("b", ("sum", X, Y))))
JOINED = ("join", RAIN, WIND, (("x", "z"),), -1, 2)
ALONE = ("alone", RAIN, SNOW, (("x", "y"), ("y", "x")), -10, 10)
PANES = ("fold", RAIN, ("x",), ("pane", 5), (("total", "sum", "y"), ("low", "least", "x")))
SLIDES = ("fold", RAIN, (), ("slide", 4, 2), ())
VISITS = ("fold", RAIN, ("y", "x"), ("visit", 20), (("high", "most", "x"),))

# Trees, the columns that they tell, and whether they are flat.
GOOD = [
    (RAIN, ["x", "y"], True), (WIND, ["z"], True), (SNOW, ["x", "y"], True),
    (KEPT, ["x", "y"], True), (("keep", KEPT, YES), ["x", "y"], True),
    (SHAPED, ["a", "b"], True), (("shape", RAIN, (("x", Y),)), ["x"], True),
    (("shape", RAIN, (("x", Y), ("y", X))), ["x", "y"], True),
    (("shape", WIND, (("z", ("number", -20)),)), ["z"], True),
    (("both", RAIN, RAIN), ["x", "y"], True), (("both", RAIN, SNOW), ["x", "y"], True),
    (("both", ("shape", WIND, (("x", ("column", "z")), ("y", ONE))), RAIN), ["x", "y"], True),
    (JOINED, ["x", "y", "z"], True), (("join", WIND, RAIN, (), 0, 0), ["z", "x", "y"], True),
    (("join", RAIN, WIND, (("x", "z"), ("x", "z"), ("y", "z")), -10, 10), ["x", "y", "z"], True),
    (("join", JOINED, ("shape", WIND, (("w", ("column", "z")),)), (("z", "w"),), -2, -1), ["x", "y", "z", "w"], True),
    (ALONE, ["x", "y"], False), (("alone", RAIN, RAIN, (), 0, 0), ["x", "y"], False),
    (("alone", JOINED, WIND, (("z", "z"),), -1, 1), ["x", "y", "z"], False),
    (PANES, ["x", "begin", "behind", "many", "total", "low"], False),
    (SLIDES, ["begin", "behind", "many"], False),
    (VISITS, ["y", "x", "begin", "behind", "many", "high"], False),
    (("fold", JOINED, ("z", "x"), ("slide", 20, 20), (("y", "sum", "y"),)),
     ["z", "x", "begin", "behind", "many", "y"], False),
    (("fold", WIND, (), ("pane", 1), (("z", "sum", "z"), ("x", "sum", "z"))),
     ["begin", "behind", "many", "z", "x"], False),
    (("keep", PANES, ("below", ("column", "many"), ("column", "behind"))),
     ["x", "begin", "behind", "many", "total", "low"], False),
    (("keep", ALONE, LOW_X), ["x", "y"], False),
    (("shape", SLIDES, (("a", ("less", ("column", "behind"), ("column", "begin"))),)), ["a"], False),
    (("both", SLIDES, SLIDES), ["begin", "behind", "many"], False),
    (("both", SLIDES, ("fold", WIND, (), ("visit", 1), ())), ["begin", "behind", "many"], False),
    (("both", ALONE, RAIN), ["x", "y"], False), (("both", RAIN, ALONE), ["x", "y"], False),
    (("both", ("shape", SLIDES, (("z", ("column", "many")),)), WIND), ["z"], False),
    # Numbers beyond the bounds are no refusal, nor are joins on one way down.
    (("fold", RAIN, (), ("slide", 21, 500), ()), ["begin", "behind", "many"], False),
    (("alone", RAIN, WIND, (), -11, 4000), ["x", "y"], False),
    (("keep", RAIN, ("is", X, ("number", 10 ** 20))), ["x", "y"], True),
]


def with_pairs(word, pairs):
    return (word, RAIN, WIND, pairs, 0, 1)


def with_span(word, low, high):
    return (word, RAIN, WIND, (), low, high)


def with_keys(keys):
    return ("fold", RAIN, keys, ("pane", 5), ())


def with_window(window):
    return ("fold", RAIN, (), window, ())


def with_sums(sums):
    return ("fold", RAIN, ("x",), ("pane", 5), sums)


def with_shapes(pairs):
    return ("shape", RAIN, pairs)


WORDS = [
    ("source",), ("source", "rain", "wind"), ("source", "hail"), ("source", "x"), ("source", ""), ("source", None),
    ("source", 0), ("source", True), ("source", RAIN), ("source", ["rain"]), ("source", b"rain"), ("source", ()),
    ("source", Everything()), (Everything(), "rain"), (Everything(), RAIN, YES), "source", "rain", ("rain",),
    ["source", "rain"], {"source": "rain"}, (RAIN,), (RAIN, RAIN), ("Source", "rain"), ("sources", "rain"),
    ("keep",), ("keep", RAIN), ("keep", RAIN, YES, YES), ("keep", YES, RAIN), ("keep", "rain", YES),
    ("keep", ("source", "hail"), YES), ("keep", ["source", "rain"], YES), ("keep", None, YES), ("keep", (), YES),
    ["keep", RAIN, YES], ("shape", RAIN), ("shape", RAIN, (("a", X),), ()), ("both", RAIN), ("both", RAIN, RAIN, RAIN),
    ("join", RAIN, WIND), ("join", RAIN, WIND, (), 0), ("join", RAIN, WIND, (), 0, 1, 2), ("join", RAIN, WIND, 0, 1),
    ("alone", RAIN, WIND, (), 0), ("alone", RAIN, WIND), ("alone", RAIN, WIND, (), 0, 1, 2),
    ("fold", RAIN, (), ("pane", 1)), ("fold", RAIN, (), ("pane", 1), (), ()), ("fold", RAIN, ("pane", 1)),
    ("letter", "rain"), ("of", RAIN, YES), ("pane", RAIN, YES), (1, RAIN, YES), (None, RAIN, YES),
    (("keep",), RAIN, YES), (["keep"], RAIN, YES), ("", RAIN, YES),
]
CONDITIONS = [
    ("keep", RAIN, condition) for condition in [
        X, ("is", X), ("is", X, ("column", "z")), ("below", ("column", "many"), ONE), True, None, "yes", ["yes"], (),
        ("not", X), ("all", YES, ("is", ("column", "a"), ONE)), ("is", X, ("number", True)), Everything(),
    ]
] + [
    ("keep", SHAPED, LOW_X), ("keep", PANES, ("is", Y, ONE)), ("keep", SLIDES, ("is", ("column", "x"), ONE)),
    ("keep", ALONE, ("is", ("column", "z"), ONE)),
]
SHAPES = [
    with_shapes(pairs) for pairs in [
        (), (("a", X), ("a", Y)), (("a", X), ("b", Y), ("a", X)), [("a", X)], (["a", X],), (("a",),), (("a", X, X),),
        ("a", X), ("ax",), "ax", None, {("a", X): 1}, (("begin", X),), (("many", X),), (("of", X),), (("sum", X),),
        (("abcdefg", X),), (("", X),), (("A", X),), (("a1", X),), ((None, X),), ((1, X),), ((X, "a"),),
        (("a", YES),), (("a", ("column", "z")),), (("a", ("column", "a")),), (("a", 1),), (("a", "x"),),
        (("a", X), None), (("a", X), ()), (Everything(),), ((Everything(), X),), (("a", Everything()),),
        (("a", ("column", "begin")),),
    ]
]
BOTHS = [
    ("both", RAIN, WIND), ("both", WIND, RAIN), ("both", RAIN, SHAPED), ("both", RAIN, PANES), ("both", PANES, SLIDES),
    ("both", RAIN, ("shape", RAIN, (("y", Y), ("x", X)))), ("both", RAIN, ("shape", RAIN, (("x", X),))),
    ("both", ("shape", RAIN, (("x", X),)), RAIN), ("both", JOINED, RAIN), ("both", RAIN, None), ("both", None, RAIN),
    ("both", RAIN, YES), ("both", YES, RAIN), ("both", RAIN, "rain"), ("both", RAIN, ["source", "rain"]),
]
PARTNERS = [
    tree for word in ("join", "alone") for tree in [
        *[with_pairs(word, pairs) for pairs in [
            [("x", "z")], (["x", "z"],), (("x",),), (("x", "z", "z"),), ("x", "z"), ("xz",), None, "xz", {("x", "z"): 1},
            (("z", "x"),), (("x", "x"),), (("z", "z"),), (("x", "hail"),), (("x", None),), ((0, "z"),), (("x", X),),
            (("x", "z"), None), (("x", "z"), ()), (("begin", "z"),), (Everything(),), ((Everything(), "z"),),
            (("x", Everything()),), (("x", ["z"]),),
        ]],
        *[with_span(word, low, high) for low, high in [
            (1, 0), (0, -1), (-1, -2), (10, -10), (True, 1), (0, True), (False, 1), (0, False), (None, 1), (0, None),
            ("0", 1), (0, "1"), ((0,), 1), (0, [1]), (Everything(), 1), (0, Everything()),
        ]],
        (word, RAIN, None, (), 0, 0), (word, None, WIND, (), 0, 0), (word, RAIN, YES, (), 0, 0),
        (word, RAIN, ("source", "hail"), (), 0, 0), (word, ("keep", RAIN, X), WIND, (), 0, 0),
        (word, ALONE, WIND, (), 0, 0), (word, WIND, ALONE, (), 0, 0), (word, PANES, WIND, (), 0, 0),
        (word, WIND, PANES, (), 0, 0), (word, ("keep", ALONE, YES), WIND, (), 0, 0),
        (word, WIND, ("both", RAIN, ALONE), (), 0, 0), (word, WIND, ("shape", SLIDES, (("a", ONE),)), (), 0, 0),
    ]
] + [
    ("join", RAIN, RAIN, (), 0, 0), ("join", RAIN, SNOW, (), 0, 0), ("join", JOINED, WIND, (), 0, 0),
    ("join", RAIN, ("shape", WIND, (("a", ONE), ("y", ONE))), (), 0, 0),
]
FOLDS = [
    *[with_keys(keys) for keys in [
        ["x"], "x", "xy", None, {"x": 1}, ("z",), ("x", "z"), ("x", "x"), ("x", "y", "x"), (None,), (0,), (X,),
        (("x",),), ("begin",), ("many",), ("",), (Everything(),), (b"x",),
    ]],
    *[with_window(window) for window in [
        (), ("pane",), ("pane", 1, 1), ("slide",), ("slide", 1), ("slide", 1, 1, 1), ("visit",), ("visit", 1, 1),
        ("pane", 0), ("pane", -1), ("slide", 0, 1), ("slide", 1, 0), ("slide", -2, 1), ("slide", 2, -1), ("visit", 0),
        ("visit", -5), ("pane", True), ("slide", True, 1), ("slide", 1, True), ("visit", True), ("pane", None),
        ("pane", "5"), ("pane", (5,)), ("slide", 1, None), ["pane", 5], "pane", 5, None, {"pane": 5}, ("hour", 5),
        ("panes", 5), ("sum", 5), (5, "pane"), (None, 5), (Everything(), 5), ("pane", Everything()), Everything(),
        (["pane"], 5),
    ]],
    *[with_sums(sums) for sums in [
        [("a", "sum", "y")], (["a", "sum", "y"],), ("a", "sum", "y"), "a", None, (("a", "sum"),),
        (("a", "sum", "y", "y"),), (("a", "sum", "z"),), (("a", "sum", "a"),), (("a", "sum", "many"),),
        (("a", "least", None),), (("a", "many", "y"),), (("a", "greatest", "y"),), (("a", "", "y"),),
        (("a", None, "y"),), (("sum", "a", "y"),), (("x", "sum", "y"),), (("a", "sum", "y"), ("a", "most", "y")),
        (("a", "sum", "y"), ("b", "sum", "y"), ("a", "sum", "y")), (("begin", "sum", "y"),), (("behind", "sum", "y"),),
        (("many", "sum", "y"),), (("of", "sum", "y"),), (("abcdefg", "sum", "y"),), ((1, "sum", "y"),),
        (("A", "sum", "y"),), (("a", ["sum"], "y"),), (("a", "sum", X),), (("a", "sum", "y"), None),
        (Everything(),), ((Everything(), "sum", "y"),), (("a", Everything(), "y"),), (("a", "sum", Everything()),),
    ]],
    ("fold", ALONE, (), ("pane", 5), ()), ("fold", PANES, (), ("pane", 5), ()), ("fold", YES, (), ("pane", 5), ()),
    ("fold", ("keep", PANES, YES), (), ("pane", 5), ()), ("fold", ("both", RAIN, ALONE), (), ("pane", 5), ()),
    ("fold", "rain", (), ("pane", 5), ()), ("fold", None, (), ("pane", 5), ()),
]
BAD = WORDS + CONDITIONS + SHAPES + BOTHS + PARTNERS + FOLDS


def kept(tree, often):
    for _ in range(often):
        tree = ("keep", tree, YES)
    return tree


def both_of(many):
    """A tree of so many boths, as flat as may be, with one source more."""
    if many == 0:
        return RAIN
    return ("both", both_of((many - 1) // 2), both_of(many - 1 - (many - 1) // 2))


class QuestionTest(RefusalCase):
    def test_what_is_a_question(self):
        for tree, columns, flat in GOOD:
            with self.subTest(tree=tree):
                question = Question(SOURCES, tree)
                self.assertEqual(question.tree(), tree)
                self.assertEqual(question.sources(), SOURCES)
                self.assertEqual(question.columns(), columns)
                self.assertIs(type(question.columns()), list)
                self.assertIs(question.is_flat(), flat)

    def test_what_is_none(self):
        for tree in BAD + ANYTHING + [Everything(), deep_tuple(RAIN), deep_tuple("source")]:
            self.refused(NoQuestion, Question, SOURCES, tree)

    def test_what_is_none_within_others(self):
        for tree in BAD:
            for whole in [("keep", tree, YES), ("both", RAIN, tree), ("both", tree, RAIN), ("join", WIND, tree, (), 0, 0),
                          ("join", tree, WIND, (), 0, 0), ("alone", RAIN, tree, (), 0, 0),
                          ("fold", tree, (), ("pane", 5), ())]:
                self.refused(NoQuestion, Question, SOURCES, whole)

    def test_trees_of_other_sources(self):
        self.refused(NoQuestion, Question, THREE, SHAPED)
        self.refused(NoQuestion, Question, SOURCES[1:], KEPT)
        Question(SOURCES[1:], WIND)

    def test_no_sources_are_told_first(self):
        for sources in NO_SOURCES + ANYTHING + [Everything()]:
            self.refused(NoSource, Question, sources, RAIN)
            self.refused(NoSource, Question, sources, None)

    def test_terms_within_one_another(self):
        for core in (RAIN, WIND):
            self.assertEqual(Question(SOURCES, kept(core, 5)).tree(), kept(core, 5))
            self.refused(NoQuestion, Question, SOURCES, kept(core, 6))
            self.refused(NoQuestion, Question, SOURCES, kept(core, 3000))
        Question(SOURCES, ("both", RAIN, kept(RAIN, 4)))
        Question(SOURCES, ("both", kept(RAIN, 4), RAIN))
        self.refused(NoQuestion, Question, SOURCES, ("both", RAIN, kept(RAIN, 5)))
        self.refused(NoQuestion, Question, SOURCES, ("both", kept(RAIN, 5), RAIN))
        self.refused(NoQuestion, Question, SOURCES, ("fold", kept(RAIN, 5), (), ("pane", 1), ()))

    def test_terms_in_all(self):
        eleven, twelve, thirteen = both_of(5), ("keep", both_of(5), YES), both_of(6)
        self.assertEqual([many_terms(tree) for tree in (eleven, twelve, thirteen)], [11, 12, 13])
        for tree in (eleven, twelve):
            self.assertEqual(len(Question(SOURCES, tree).terms()), many_terms(tree))
        self.refused(NoQuestion, Question, SOURCES, thirteen)
        self.refused(NoQuestion, Question, SOURCES, ("both", eleven, RAIN))
        self.refused(NoQuestion, Question, SOURCES, ("both", RAIN, eleven))

    def test_joins_on_one_way_down(self):
        tree = RAIN
        for name in ("a", "b", "c"):
            tree = ("join", tree, ("shape", WIND, ((name, ("column", "z")),)), (), -1, 1)
            self.assertEqual(Question(SOURCES, tree).tree(), tree)
        Question(SOURCES, ("alone", tree, WIND, (), 0, 0))

    def test_terms(self):
        tree = ("both", ("keep", ALONE, YES), RAIN)
        self.assertEqual(Question(SOURCES, tree).terms(), [tree, ("keep", ALONE, YES), ALONE, RAIN, SNOW, RAIN])
        self.assertEqual(Question(SOURCES, RAIN).terms(), [RAIN])
        tree = ("join", SHAPED, ("both", SNOW, RAIN), (), 0, 1)
        self.assertEqual(Question(SOURCES, tree).terms(), [tree, SHAPED, RAIN, ("both", SNOW, RAIN), SNOW, RAIN])
        self.assertEqual(Question(SOURCES, PANES).terms(), [PANES, RAIN])

    def test_source_names(self):
        for tree, names in [
            (RAIN, ["rain"]), (WIND, ["wind"]), (JOINED, ["rain", "wind"]), (("both", RAIN, RAIN), ["rain"]),
            (("join", WIND, RAIN, (), 0, 0), ["rain", "wind"]), (ALONE, ["rain", "snow"]),
            (("alone", JOINED, SNOW, (), 0, 0), ["rain", "snow", "wind"]), (PANES, ["rain"]),
        ]:
            self.assertEqual(Question(SOURCES, tree).source_names(), names)

    def test_many_made_ones(self):
        for number in range(300):
            maker = Maker(number)
            tree = maker.tree()
            question = Question(maker.sources, tree)
            self.assertEqual(question.columns(), slow_columns(maker.sources, tree))
            self.assertEqual(len(question.terms()), many_terms(tree))

    def test_what_is_told_is_the_askers_own(self):
        question = Question(SOURCES, JOINED)
        for told in (question.columns, question.terms, question.source_names):
            first = told()
            kept_copy = copy.deepcopy(first)
            first.append("x")
            first.reverse()
            self.assertEqual(told(), kept_copy)
