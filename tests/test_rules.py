"""lateriver/rules.py: of point 131, and of point 2 (f)."""

from lateriver.errors import NoQuestion, NoRule, NoSource, NoSpot
from lateriver.questions import question_text
from lateriver.rules import done_by, fitting, rule_names
from lateriver.terms import term_text
from lateriver.trees import columns_of, is_tree
from tests.asking import Maker, many_terms, parts_of, slow_answer, slow_columns
from tests.refusals import ANYTHING, Everything, RefusalCase, deep_tuple
from tests.test_plain import RAIN, SNOW, SOURCES, WIND, X, Y
from tests.test_sources import BAD as NO_SOURCES

NAMES = [
    "downalone", "downboth", "downfold", "downjoin", "downshape", "free", "merge", "onshape", "pass", "row", "same",
    "tidy", "turn", "upalone", "upleft", "upright", "upshape",
]
YES = ("yes",)
Z, A, B = ("column", "z"), ("column", "a"), ("column", "b")
C, D = ("below", X, ("number", 1)), ("is", Y, ("number", 2))
ONE, TWO = ("number", 1), ("number", 2)
SHAPE = ("shape", RAIN, (("a", ("sum", X, Y)), ("b", ONE)))
NAMED = ("shape", RAIN, (("x", X), ("y", Y)))
JOIN = ("join", RAIN, WIND, (("x", "z"),), -1, 2)
ALONE = ("alone", RAIN, WIND, (("x", "z"),), -1, 2)
FOLD = ("fold", RAIN, ("x",), ("pane", 5), (("a", "sum", "y"),))
FOLD_ALL = ("fold", RAIN, (), ("pane", 5), ())
BOTH = ("both", RAIN, SNOW)
THIRD = ("keep", RAIN, C)


def keep(tree, condition):
    return ("keep", tree, condition)


def both(*trees):
    """Boths within one another, each the second part of the one above."""
    return trees[0] if len(trees) == 1 else ("both", trees[0], both(*trees[1:]))


def all_of(*conditions):
    return conditions[0] if len(conditions) == 1 else ("all", conditions[0], all_of(*conditions[1:]))


def join(one, other, *told):
    return ("join", one, other, *(told or JOIN[3:]))


# Of each rule terms to which it fits, and what becomes of them.
FITS = {
    "merge": [
        (keep(keep(RAIN, C), D), keep(RAIN, ("all", C, D))), (keep(keep(RAIN, YES), YES), keep(RAIN, ("all", YES, YES))),
        (keep(keep(JOIN, ("all", C, D)), C), keep(JOIN, ("all", ("all", C, D), C))),
    ],
    "free": [(keep(RAIN, YES), RAIN), (keep(keep(RAIN, C), YES), keep(RAIN, C)), (keep(FOLD, YES), FOLD)],
    "tidy": [
        (keep(RAIN, ("all", D, C)), keep(RAIN, ("all", D, C)[:1] + ((D, C) if term_text(D) < term_text(C) else (C, D)))),
        (keep(RAIN, ("all", C, C)), keep(RAIN, C)), (keep(RAIN, ("all", YES, YES)), keep(RAIN, YES)),
        (keep(RAIN, ("all", YES, C)), keep(RAIN, C)), (keep(FOLD, ("all", ("all", YES, YES), YES)), keep(FOLD, YES)),
        (keep(RAIN, ("all", ("all", ("not", C), C), ("not", C))), keep(RAIN, ("all", C, ("not", C)))),
        (keep(RAIN, ("all", ("all", C, D), ("not", ("all", D, C)))), keep(RAIN, all_of(C, D, ("not", ("all", D, C))))),
    ],
    "downshape": [
        (keep(SHAPE, ("below", A, B)), ("shape", keep(RAIN, ("below", ("sum", X, Y), ONE)), SHAPE[2])),
        (keep(SHAPE, YES), ("shape", keep(RAIN, YES), SHAPE[2])),
        (keep(SHAPE, ("any", ("is", ("most", A, TWO), B), ("not", ("below", ("less", B, A), A)))),
         ("shape", keep(RAIN, ("any", ("is", ("most", ("sum", X, Y), TWO), ONE),
                               ("not", ("below", ("less", ONE, ("sum", X, Y)), ("sum", X, Y))))), SHAPE[2])),
        (keep(("shape", RAIN, (("x", Y), ("y", X))), ("below", X, Y)),
         ("shape", keep(RAIN, ("below", Y, X)), (("x", Y), ("y", X)))),
    ],
    "downboth": [(keep(BOTH, C), ("both", keep(RAIN, C), keep(SNOW, C))), (keep(("both", FOLD, FOLD), YES),
                                                                           ("both", keep(FOLD, YES), keep(FOLD, YES)))],
    "downalone": [(keep(ALONE, C), ("alone", keep(RAIN, C), *ALONE[2:])), (keep(ALONE, YES), ("alone", keep(RAIN, YES), *ALONE[2:]))],
    "downjoin": [
        (keep(JOIN, C), join(keep(RAIN, C), WIND)), (keep(JOIN, ("is", Z, ONE)), join(RAIN, keep(WIND, ("is", Z, ONE)))),
        (keep(JOIN, all_of(D, ("is", Z, ONE), ("below", X, Z), C)),
         keep(join(keep(RAIN, ("all", D, C)), WIND), ("all", ("is", Z, ONE), ("below", X, Z)))),
        (keep(JOIN, all_of(("is", Z, TWO), ("below", X, Z), ("is", Z, ONE))),
         keep(join(RAIN, keep(WIND, ("all", ("is", Z, TWO), ("is", Z, ONE)))), ("below", X, Z))),
        (keep(JOIN, ("is", ONE, TWO)), join(keep(RAIN, ("is", ONE, TWO)), WIND)),
        (keep(JOIN, ("all", ("not", YES), ("is", Z, ONE))), keep(join(keep(RAIN, ("not", YES)), WIND), ("is", Z, ONE))),
        (keep(JOIN, ("all", ("all", YES, C), ("all", ("below", X, Z), D))),
         keep(join(keep(RAIN, ("all", C, D)), WIND), ("below", X, Z))),
        (keep(JOIN, ("any", ("is", Z, ONE), ("not", ("is", Z, TWO)))),
         join(RAIN, keep(WIND, ("any", ("is", Z, ONE), ("not", ("is", Z, TWO)))))),
    ],
    "downfold": [
        (keep(FOLD, C), ("fold", keep(RAIN, C), *FOLD[2:])),
        (keep(FOLD, all_of(("is", ("column", "many"), ONE), C, ("not", C))),
         keep(("fold", keep(RAIN, ("all", C, ("not", C))), *FOLD[2:]), ("is", ("column", "many"), ONE))),
        (keep(FOLD_ALL, ("all", ("below", ONE, TWO), ("is", ("column", "begin"), ONE))),
         keep(("fold", keep(RAIN, ("below", ONE, TWO)), *FOLD_ALL[2:]), ("is", ("column", "begin"), ONE))),
    ],
    "onshape": [
        (("shape", SHAPE, (("x", ("less", B, A)), ("y", TWO))), ("shape", RAIN, (("x", ("less", ONE, ("sum", X, Y))), ("y", TWO)))),
        (("shape", NAMED, (("y", X), ("x", ("least", X, Y)))), ("shape", RAIN, (("y", X), ("x", ("least", X, Y))))),
    ],
    "same": [(NAMED, RAIN), (("shape", JOIN, (("x", X), ("y", Y), ("z", Z))), JOIN),
             (("shape", SHAPE, (("a", A), ("b", B))), SHAPE)],
    "upshape": [(("shape", BOTH, (("a", X),)), ("both", ("shape", RAIN, (("a", X),)), ("shape", SNOW, (("a", X),))))],
    "upleft": [(join(BOTH, WIND), ("both", join(RAIN, WIND), join(SNOW, WIND)))],
    "upright": [(join(WIND, BOTH, (("z", "x"),), 1, 1), ("both", join(WIND, RAIN, (("z", "x"),), 1, 1),
                                                         join(WIND, SNOW, (("z", "x"),), 1, 1)))],
    "upalone": [(("alone", BOTH, *ALONE[2:]), ("both", ALONE, ("alone", SNOW, *ALONE[2:])))],
    "row": [(("both", BOTH, RAIN), both(RAIN, SNOW, RAIN)), (("both", BOTH, BOTH), both(RAIN, SNOW, RAIN, SNOW))],
    "turn": [(("both", SNOW, RAIN), BOTH), (("both", RAIN, THIRD), ("both", THIRD, RAIN))],
    "pass": [(both(SNOW, RAIN, SNOW), both(RAIN, SNOW, SNOW)), (both(RAIN, THIRD, BOTH), both(THIRD, RAIN, BOTH))],
}
# Of each rule terms to which it just doesn't fit.
FITS_NOT = {
    "merge": [keep(RAIN, C), keep(SHAPE, YES), ("shape", keep(RAIN, C), (("a", X),)), ("both", keep(RAIN, C), RAIN)],
    "free": [keep(RAIN, ("not", YES)), keep(RAIN, ("all", YES, YES)), keep(RAIN, ("any", YES, YES)), RAIN],
    "tidy": [
        keep(RAIN, C), keep(RAIN, YES), keep(RAIN, ("not", ("all", C, C))), keep(RAIN, ("any", C, C)), keep(RAIN, ("all", C, ("not", C))),
        keep(RAIN, all_of(C, ("not", ("all", D, C)))), SHAPE,
    ],
    "downshape": [keep(RAIN, C), ("shape", keep(RAIN, C), (("a", X),)), SHAPE],
    "downboth": [keep(RAIN, C), BOTH, ("both", keep(RAIN, C), keep(SNOW, C))],
    "downalone": [keep(RAIN, C), ALONE, ("alone", keep(RAIN, C), *ALONE[2:])],
    "downjoin": [keep(JOIN, YES), keep(JOIN, ("below", X, Z)), keep(JOIN, ("all", ("below", X, Z), ("is", Z, Y))), JOIN,
                 keep(JOIN, ("any", C, ("is", Z, ONE))), keep(JOIN, ("not", ("all", C, ("is", Z, ONE)))), keep(JOIN, ("all", YES, YES))],
    "downfold": [keep(FOLD, YES), keep(FOLD, ("is", A, ONE)), keep(FOLD, ("is", X, ("column", "many"))), keep(FOLD, ("is", ("column", "behind"), ONE)),
                 keep(FOLD_ALL, ("is", ("column", "begin"), ONE)), FOLD],
    "onshape": [SHAPE, ("shape", keep(RAIN, C), (("a", X),)), keep(SHAPE, ("is", A, B))],
    "same": [
        ("shape", RAIN, (("y", Y), ("x", X))), ("shape", RAIN, (("x", X),)), ("shape", RAIN, (("x", Y), ("y", X))),
        ("shape", RAIN, (("x", X), ("y", Y), ("z", X))), ("shape", RAIN, (("x", X), ("y", ("sum", Y, ("number", 0))))),
        ("shape", RAIN, (("x", X), ("b", Y))), keep(RAIN, YES), ("shape", WIND, (("x", Z),)),
    ],
    "upshape": [SHAPE, keep(BOTH, C), ("shape", keep(BOTH, C), (("a", X),))],
    "upleft": [JOIN, join(WIND, BOTH, (), 0, 0), join(keep(BOTH, C), WIND), ("alone", BOTH, *ALONE[2:])],
    "upright": [JOIN, join(BOTH, WIND), ("alone", WIND, BOTH, (), 0, 0), join(WIND, keep(BOTH, C), (), 0, 0)],
    "upalone": [ALONE, ("alone", WIND, BOTH, (), 0, 0), join(BOTH, WIND), ("alone", keep(BOTH, C), *ALONE[2:])],
    "row": [BOTH, ("both", RAIN, BOTH), ("both", keep(BOTH, C), RAIN)],
    "turn": [BOTH, ("both", RAIN, RAIN), ("both", SNOW, BOTH), ("both", BOTH, RAIN), ("both", THIRD, RAIN)],
    "pass": [BOTH, ("both", SNOW, RAIN), both(RAIN, SNOW, RAIN), both(RAIN, RAIN, SNOW), ("both", BOTH, BOTH), ("both", SNOW, ("both", BOTH, RAIN)),
             ("both", BOTH, both(RAIN, RAIN))],
}


def places_of(tree):
    """All places in a tree, with what stands there."""
    found = {(): tree}
    for number, part in enumerate(parts_of(tree)):
        found.update({(number, *place): term for place, term in places_of(part).items()})
    return found


def with_term(tree, place, term):
    if not place:
        return term
    parts = list(tree)
    parts[1 + place[0]] = with_term(tree[1 + place[0]], place[1:], term)
    return tuple(parts)


class RuleTest(RefusalCase):
    def test_names(self):
        self.assertEqual(rule_names(), NAMES)
        rule_names().clear()
        self.assertEqual(rule_names(), NAMES)

    def test_where_each_rule_fits(self):
        self.assertEqual(sorted(FITS), NAMES)
        for rule, pairs in FITS.items():
            for tree, behind in pairs:
                with self.subTest(rule=rule, tree=question_text(tree)):
                    self.assertEqual(done_by(SOURCES, tree, (), rule), behind)
                    self.assertIn(((), rule), fitting(SOURCES, tree))
                    self.assertTrue(is_tree(SOURCES, behind, None, None))
                    self.assertEqual(columns_of(SOURCES, behind), columns_of(SOURCES, tree))

    def test_where_it_just_does_not(self):
        self.assertEqual(sorted(FITS_NOT), NAMES)
        for rule, trees in FITS_NOT.items():
            for tree in trees:
                with self.subTest(rule=rule, tree=question_text(tree)):
                    self.refused(NoRule, done_by, SOURCES, tree, (), rule)
                    self.assertNotIn(((), rule), fitting(SOURCES, tree))

    def test_every_place_in_a_tree(self):
        flat = ["merge", "free", "tidy", "downshape", "onshape", "same", "turn", "row"]
        for rule in flat:
            for term, behind in FITS[rule]:
                if columns_of(SOURCES, term) != ["x", "y"] or not is_tree(SOURCES, ("fold", term, (), ("visit", 1), ()), 12, 6):
                    continue
                tree = ("fold", join(both(SNOW, keep(term, D), RAIN), ("shape", term, (("b", X),)), (), 0, 0), (), ("visit", 3), ())
                for place in [(0, 0, 1, 0, 0), (0, 1, 0)]:
                    self.assertEqual(places_of(tree)[place], term)
                    self.assertEqual(done_by(SOURCES, tree, place, rule), with_term(tree, place, behind))
                    self.assertIn((place, rule), fitting(SOURCES, tree))

    def test_fitting_rises_and_is_whole(self):
        tree = keep(keep(both(SNOW, NAMED, keep(RAIN, ("all", C, C))), YES), ("all", D, YES))
        self.assertEqual(fitting(SOURCES, tree), [
            ((), "merge"), ((), "tidy"), ((0,), "downboth"), ((0,), "free"), ((0, 0), "pass"), ((0, 0, 1), "turn"),
            ((0, 0, 1, 0), "same"), ((0, 0, 1, 1), "tidy"),
        ])
        self.assertEqual(fitting(SOURCES, RAIN), [])

    def test_texts_that_part_late(self):
        # Both texts begin alike for many hundred signs.
        condition = C
        for _ in range(300):
            condition = ("any", condition, D)
        one, other = [keep(RAIN, ("any", condition, ("is", X, ("number", number)))) for number in (1, 2)]
        self.assertEqual(done_by(SOURCES, ("both", other, one), (), "turn"), ("both", one, other))
        self.refused(NoRule, done_by, SOURCES, ("both", one, other), (), "turn")
        self.refused(NoRule, done_by, SOURCES, ("both", one, one), (), "turn")
        longer = keep(RAIN, condition)
        texts = sorted([question_text(one), question_text(longer)])
        self.assertEqual(question_text(both(one, longer)), question_text(("both", one, longer)))
        told = [rule for _, rule in fitting(SOURCES, ("both", one, longer))]
        self.assertEqual("turn" in told, texts[0] == question_text(longer))

    def test_trees_that_part_late(self):
        ones = [RAIN, RAIN]
        for _ in range(60):
            ones = [keep(one, C) for one in ones]
        others = [keep(RAIN, ("is", X, number)) for number in (ONE, TWO)]
        for _ in range(60):
            others = [keep(other, D) for other in others]
        self.refused(NoRule, done_by, SOURCES, ("both", *ones), (), "turn")
        self.refused(NoRule, done_by, SOURCES, ("both", *others), (), "turn")
        self.assertEqual(done_by(SOURCES, ("both", *others[::-1]), (), "turn"), ("both", *others))
        self.assertEqual(done_by(SOURCES, both(*others[::-1], RAIN), (), "pass"), both(*others, RAIN))

    def test_each_step_answers_alike(self):
        done = {}
        for number in range(300):
            maker = Maker(number)
            tree = mixed_tree(maker)
            letters = [maker.letters(9, 6) for _ in range(2)]
            answers = [slow_answer(maker.sources, tree, some) for some in letters]
            found = fitting(maker.sources, tree)
            self.assertEqual(found, sorted(set(found)))
            places = places_of(tree)
            for place, rule in found:
                behind = done_by(maker.sources, tree, place, rule)
                self.assertNotEqual(behind, tree)
                self.assertTrue(is_tree(maker.sources, behind, None, None))
                self.assertEqual(slow_columns(maker.sources, behind), slow_columns(maker.sources, tree))
                self.assertEqual([slow_answer(maker.sources, behind, some) for some in letters], answers, (number, place, rule))
                at_place = done_by(maker.sources, places[place], (), rule)
                self.assertEqual(behind, with_term(tree, place, at_place))
                done[rule] = True
            for place in places:
                for rule in NAMES:
                    if (place, rule) not in found:
                        self.refused(NoRule, done_by, maker.sources, tree, place, rule)
        self.assertEqual(sorted(done), NAMES)


def mixed_tree(maker):
    """A tree to which many rules fit."""
    tree = maker.random.choice([Maker.tree, joined_boths, alone_boths, many_boths, kept_fold])(maker)
    for _ in range(maker.random.randint(0, 3)):
        columns = slow_columns(maker.sources, tree)
        word = maker.random.choice(["keep", "keep", "shape", "same", "both"])
        if word == "keep":
            conditions = [maker.condition(columns, 3), YES, ("all", maker.condition(columns), maker.condition(columns))]
            tree = keep(tree, maker.random.choice(conditions))
        elif word == "shape":
            tree = maker.shape(tree)
        elif word == "same":
            tree = ("shape", tree, tuple((name, ("column", name)) for name in columns))
        else:
            parts = [tree, maker.random.choice([tree, keep(tree, maker.condition(columns))])]
            tree = ("both", *maker.random.sample(parts, 2))
    if many_terms(tree) > 14 or not is_tree(maker.sources, tree, None, None):
        return mixed_tree(maker)
    return tree


def joined_boths(maker):
    """A join of which some part is a both, perhaps kept."""
    one, other = maker.source(), maker.shape(maker.source())
    one = maker.random.choice([one, maker.both(one, 0)])
    other = maker.random.choice([other, ("both", other, other), maker.shape(("both", other, keep(other, YES)))])
    tree = ("join", one) + maker.partners(one, other)
    columns = slow_columns(maker.sources, tree)
    return maker.random.choice([tree, keep(tree, ("all", maker.condition(columns), maker.condition(columns)))])


def many_boths(maker):
    """Boths within one another, in any order."""
    source = maker.source()
    columns = slow_columns(maker.sources, source)
    parts = [source] + [keep(source, maker.condition(columns, 1)) for _ in range(2)]
    parts = [maker.random.choice(parts) for _ in range(4)]
    while len(parts) > 1:
        at = maker.random.randrange(len(parts) - 1)
        parts[at:at + 2] = [("both", *parts[at:at + 2])]
    return parts[0]


def kept_fold(maker):
    """A keep of a fold, some of it by its keys."""
    tree = maker.fold()
    keys, columns = list(tree[2]), slow_columns(maker.sources, tree)
    return keep(tree, ("all", maker.condition(columns, 1), maker.condition(keys or columns, 1)))


def alone_boths(maker):
    one, other = maker.source(), maker.source()
    one = maker.random.choice([one, maker.both(one, 0)])
    return ("alone", one) + maker.partners(one, other)


class RefusedTest(RefusalCase):
    def test_no_sources_are_told_first(self):
        for sources in NO_SOURCES + ANYTHING + [Everything()]:
            self.refused(NoSource, fitting, sources, RAIN)
            for tree, place, rule in [(RAIN, (), "merge"), (None, None, None), (keep(RAIN, YES), (), "free")]:
                self.refused(NoSource, done_by, sources, tree, place, rule)

    def test_then_what_is_no_tree(self):
        trees = ANYTHING + [
            Everything(), deep_tuple(RAIN), deep_tuple("source"), ("source", "hail"), ("source", ["rain"]), keep(RAIN, A), keep(RAIN, ("is", A, ONE)),
            ("keep", RAIN, C, C), ["keep", RAIN, C], ("both", RAIN, WIND), join(RAIN, SNOW), join(FOLD_ALL, WIND, (), 0, 0), ("alone", ALONE, WIND, (), 0, 0),
            ("fold", FOLD, (), ("pane", 5), ()), ("fold", RAIN, (), ("pane", 0), ()), ("join", RAIN, WIND, (), 2, 1), ("join", RAIN, WIND, (), False, 1),
            ("shape", RAIN, ()), ("shape", RAIN, (("begin", X),)), keep(keep(RAIN, Everything()), YES), deep_keeps(2000, keep(RAIN, A)),
            deep_keeps(2000, ("source", "hail")), keep(deep_keeps(2000, RAIN), ("is", A, ONE)), ("both", deep_keeps(2000, RAIN), WIND),
        ]
        for tree in trees:
            self.refused(NoQuestion, fitting, SOURCES, tree)
            for place, rule in [((), "merge"), (None, None), ((5,), "none")]:
                self.refused(NoQuestion, done_by, SOURCES, tree, place, rule)

    def test_then_what_is_no_place(self):
        for tree, places in [
            (RAIN, [(0,), (1,), (0, 0)]), (keep(RAIN, YES), [(1,), (0, 0), (2,), (-1,), [0], (True,), (False,), (0.5,), ("0",), ((0,),)]),
            (BOTH, [(2,), (0, 0), (1, 1), (-1,), (None,), (0, None)]), (FOLD, [(1,), (0, 0)]), (JOIN, [(2,), (0, 1)]),
            (keep(RAIN, C), [(1,), (2,)]),
        ]:
            for place in places + [thing for thing in ANYTHING if thing != ()] + [Everything(), deep_tuple(0), (Everything(),), (0,) * 5000]:
                for rule in ("free", "none", None):
                    self.refused(NoSpot, done_by, SOURCES, tree, place, rule)

    def test_then_what_is_no_rule(self):
        for rule in ANYTHING + [Everything(), "Free", "free ", "", ("free",), ["free"], b"free", "keep", deep_tuple("free")]:
            self.refused(NoRule, done_by, SOURCES, keep(RAIN, YES), (), rule)
            self.refused(NoRule, done_by, SOURCES, keep(RAIN, YES), (0,), rule)


def deep_keeps(many, tree):
    for number in range(many):
        tree = keep(tree, ("below", ONE, ("number", number)))
    return tree


class DeepTest(RefusalCase):
    """Trees and conditions of thousands of terms within one another."""

    def test_keeps(self):
        tree = deep_keeps(3000, RAIN)
        found = fitting(SOURCES, tree)
        self.assertEqual(found, [((0,) * deep, "merge") for deep in range(2999)])
        behind = done_by(SOURCES, tree, *found[-1])
        for _ in range(2998):
            behind = behind[1]
        numbers = [("below", ONE, ("number", number)) for number in (0, 1)]
        self.assertEqual(behind, keep(RAIN, ("all", *numbers)))
        self.refused(NoSpot, done_by, SOURCES, tree, (0,) * 3001, "merge")
        self.refused(NoRule, done_by, SOURCES, tree, (0,) * 2999, "merge")
        self.refused(NoRule, done_by, SOURCES, tree, (0,) * 3000, "free")

    def test_boths(self):
        tree = RAIN
        for number in range(3000):
            tree = ("both", [SNOW, RAIN][number % 2], tree)
        found = fitting(SOURCES, tree)
        expected = [((1,) * deep, "pass") for deep in range(1, 2999, 2)] + [((1,) * 2999, "turn")]
        self.assertEqual(found, sorted(expected))
        behind = done_by(SOURCES, tree, (1,) * 2999, "turn")
        for _ in range(2999):
            behind = behind[2]
        self.assertEqual(behind, BOTH)

    def test_conditions(self):
        for word in ("all", "any", "not"):
            condition = C
            for _ in range(4000):
                condition = ("not", condition) if word == "not" else (word, condition, D)
            tree = keep(RAIN, condition)
            self.assertEqual(fitting(SOURCES, tree), [((), "tidy")] if word == "all" else [])
            down = done_by(SOURCES, keep(NAMED, condition), (), "downshape")
            self.assertEqual(question_text(down), question_text(("shape", tree, NAMED[2])))
            self.assertEqual(fitting(SOURCES, keep(JOIN, condition)), [((), "downjoin")] + ([((), "tidy")] if word == "all" else []))
            self.refused(NoQuestion, fitting, SOURCES, keep(WIND, condition))
        self.assertEqual(done_by(SOURCES, keep(RAIN, all_left(4000)), (), "tidy"), keep(RAIN, ("all", D, C) if term_text(D) < term_text(C) else ("all", C, D)))

    def test_reckonings(self):
        reckoning = X
        for _ in range(4000):
            reckoning = ("sum", ONE, reckoning)
        tree = keep(("shape", RAIN, (("a", reckoning),)), ("is", A, TWO))
        behind = done_by(SOURCES, tree, (), "downshape")
        self.assertEqual(question_text(behind), question_text(("shape", keep(RAIN, ("is", reckoning, TWO)), (("a", reckoning),))))
        self.assertEqual(fitting(SOURCES, ("both", tree, tree)), [((0,), "downshape"), ((1,), "downshape")])


def all_left(many):
    condition = C
    for _ in range(many):
        condition = ("all", condition, D)
    return condition
