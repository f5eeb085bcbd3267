"""lateriver/forms.py: of point 131, and of point 2 (f)."""

from lateriver.bags import less
from lateriver.errors import NoQuestion, NoSource
from lateriver.forms import led_by, plain_form, steps_of
from lateriver.questions import question_text
from lateriver.rules import done_by, fitting
from lateriver.trees import columns_of, is_tree
from tests.asking import Maker, slow_answer
from tests.refusals import ANYTHING, Everything, RefusalCase, deep_tuple
from tests.test_plain import RAIN, SNOW, SOURCES, WIND, X, Y, fold
from tests.test_rules import ALONE, BOTH, C, D, FOLD, JOIN, NAMED, ONE, SHAPE, THIRD, TWO, YES, Z, all_of, both, deep_keeps, join, keep, mixed_tree
from tests.test_sources import BAD as NO_SOURCES

PLAIN = [
    RAIN, SHAPE, JOIN, ALONE, FOLD, BOTH, keep(RAIN, C), both(THIRD, RAIN, RAIN, SNOW), keep(JOIN, ("below", X, Z)), keep(FOLD, ("is", ("column", "a"), ONE)),
    ("shape", keep(RAIN, C), (("a", X),)), ("alone", keep(RAIN, C), BOTH, (), 0, 0), ("fold", both(THIRD, RAIN), (), ("pane", 5), ()), ("both", RAIN, RAIN),
]
FORMS = [
    (keep(keep(keep(RAIN, C), D), C), keep(RAIN, ("all", C, D))), (keep(keep(RAIN, YES), YES), RAIN), (("shape", NAMED, NAMED[2]), RAIN),
    (keep(BOTH, ("all", YES, YES)), BOTH), (both(SNOW, THIRD, RAIN, THIRD), both(THIRD, THIRD, RAIN, SNOW)),
    (("both", ("both", SNOW, RAIN), ("both", ("both", SNOW, THIRD), RAIN)), both(THIRD, RAIN, RAIN, SNOW, SNOW)),
    (keep(JOIN, all_of(("is", Z, ONE), ("below", X, Z), D, C)),
     keep(join(keep(RAIN, ("all", C, D)), keep(WIND, ("is", Z, ONE))), ("below", X, Z))),
    (keep(("shape", BOTH, (("a", X),)), ("below", ("column", "a"), TWO)),
     both(*[("shape", keep(part, ("below", X, TWO)), (("a", X),)) for part in (RAIN, SNOW)])),
    (join(BOTH, ("both", WIND, WIND)), both(*[join(part, WIND) for part in (RAIN, RAIN, SNOW, SNOW)])),
    (keep(("alone", BOTH, BOTH, (), 0, 0), C), both(*[("alone", keep(part, C), BOTH, (), 0, 0) for part in (RAIN, SNOW)])),
    (keep(FOLD, ("all", ("is", ("column", "many"), ONE), C)), keep(("fold", keep(RAIN, C), *FOLD[2:]), ("is", ("column", "many"), ONE))),
    (("fold", ("both", SNOW, ("both", RAIN, SNOW)), (), ("pane", 5), ()), ("fold", both(RAIN, SNOW, SNOW), (), ("pane", 5), ())),
]


class FormCase(RefusalCase):
    def stepped(self, sources, tree, steps):
        """The tree behind steps, each by a rule that fits."""
        for place, rule in steps:
            tree = done_by(sources, tree, place, rule)
        return tree

    def leads(self, sources, one, other):
        """The steps that are told lead from the one to the other."""
        for step in led_by(sources, one, other):
            if step[0] == "forth":
                _, place, rule = step
                one = done_by(sources, one, place, rule)
            else:
                word, place, rule, tree = step
                self.assertEqual(word, "back")
                self.assertEqual(question_text(done_by(sources, tree, place, rule)), question_text(one))
                one = tree
        self.assertEqual(question_text(one), question_text(other))


class PlainFormTest(FormCase):
    def test_plain_ones(self):
        for tree in PLAIN:
            with self.subTest(tree=question_text(tree)):
                self.assertEqual(plain_form(SOURCES, tree), tree)
                self.assertEqual(steps_of(SOURCES, tree), [])

    def test_forms(self):
        for tree, form in FORMS:
            with self.subTest(tree=question_text(tree)):
                self.assertEqual(plain_form(SOURCES, tree), form)
                self.assertEqual(self.stepped(SOURCES, tree, steps_of(SOURCES, tree)), form)
                self.leads(SOURCES, tree, form)
                self.leads(SOURCES, form, tree)

    def test_whatever_order_rules_are_done_in(self):
        for number in range(250):
            maker = Maker(number)
            tree = mixed_tree(maker)
            form = plain_form(maker.sources, tree)
            self.assertTrue(is_tree(maker.sources, form, None, None))
            self.assertEqual(columns_of(maker.sources, form), columns_of(maker.sources, tree))
            self.assertEqual(fitting(maker.sources, form), [])
            for choose in (maker.random.choice, lambda found: found[0], lambda found: found[-1]):
                behind, found = tree, fitting(maker.sources, tree)
                while found:
                    behind = done_by(maker.sources, behind, *choose(found))
                    found = fitting(maker.sources, behind)
                self.assertEqual(behind, form, number)

    def test_each_step_of_many_made_ones(self):
        for number in range(250):
            maker = Maker(number)
            tree = mixed_tree(maker)
            letters = maker.letters(9, 6)
            more = {**letters, maker.letter(6): 3}
            change = less(slow_answer(maker.sources, tree, more), slow_answer(maker.sources, tree, letters))
            steps = steps_of(maker.sources, tree)
            self.assertIs(type(steps), list)
            behind = tree
            for place, rule in steps:
                self.assertIn((place, rule), fitting(maker.sources, behind))
                behind = done_by(maker.sources, behind, place, rule)
            self.assertEqual(behind, plain_form(maker.sources, tree))
            behind = less(slow_answer(maker.sources, behind, more), slow_answer(maker.sources, behind, letters))
            self.assertEqual(behind, change)


class LedByTest(FormCase):
    def test_forth_and_back(self):
        one, other = keep(keep(RAIN, C), YES), ("shape", keep(RAIN, C), NAMED[2])
        self.leads(SOURCES, one, other)
        steps = led_by(SOURCES, one, other)
        self.assertEqual(steps, [("forth", (), "free"), ("back", (), "same", other)])

    def test_from_one_to_itself(self):
        for tree in PLAIN + [tree for tree, _ in FORMS]:
            self.leads(SOURCES, tree, tree)

    def test_unlike_forms(self):
        for one, other in [(RAIN, SNOW), (keep(RAIN, C), RAIN), (BOTH, both(RAIN, SNOW, RAIN)), (keep(RAIN, C), keep(RAIN, ("not", ("not", C)))),
                           (keep(RAIN, ("not", YES)), keep(RAIN, ("not", ("is", ONE, ONE)))), (JOIN, ALONE)]:
            self.assertIsNone(led_by(SOURCES, one, other))
            self.assertIsNone(led_by(SOURCES, other, one))

    def test_many_made_ones(self):
        for number in range(120):
            maker = Maker(number)
            tree = mixed_tree(maker)
            ends = []
            for _ in range(2):
                end = tree
                for _ in range(maker.random.randint(0, 5)):
                    found = fitting(maker.sources, end)
                    end = done_by(maker.sources, end, *maker.random.choice(found)) if found else end
                ends.append(end)
            self.leads(maker.sources, *ends)
            self.leads(maker.sources, tree, ends[0])
            self.leads(maker.sources, ends[1], tree)
            other = mixed_tree(Maker(number + 1000, maker.sources))
            alike = plain_form(maker.sources, other) == plain_form(maker.sources, tree)
            self.assertEqual(led_by(maker.sources, tree, other) is not None, alike)


class DeepTest(FormCase):
    """Trees and conditions of thousands of terms within one another."""

    def formed(self, tree, form, many=None):
        """The plain form is the one told, by so many steps."""
        self.assertEqual(question_text(plain_form(SOURCES, tree)), question_text(form))
        steps = steps_of(SOURCES, tree)
        if many is not None:
            self.assertEqual(len(steps), many)
        return steps

    def test_keeps(self):
        tree = deep_keeps(2000, RAIN)
        texts = sorted(("below", ONE, ("number", number)) for number in range(2000))
        texts = sorted(texts, key=lambda part: f"(1 < {part[2][1]})")
        form = keep(RAIN, all_of_many(texts))
        steps = self.formed(tree, form, 2000)
        self.assertEqual(sorted({rule for _, rule in steps}), ["merge", "tidy"])
        self.assertEqual(led_by(SOURCES, form, form), [])
        self.assertIsNone(led_by(SOURCES, tree, keep(tree, C)))

    def test_boths(self):
        tree, form = RAIN, RAIN
        for _ in range(3000):
            tree, form = ("both", tree, RAIN), ("both", RAIN, form)
        self.formed(tree, form, 2999)
        mixed, parts = SNOW, [SNOW]
        for number in range(3000):
            parts.append([RAIN, SNOW][number % 2])
            mixed = ("both", mixed, parts[-1])
        form = both_of_many(sorted(parts, key=question_text))
        self.assertEqual(question_text(plain_form(SOURCES, mixed)), question_text(form))

    def test_shapes_and_keeps_by_turns(self):
        tree = RAIN
        for number in range(200):
            tree = keep(("shape", tree, (("x", Y), ("y", X))), [C, ("below", Y, ("number", 1))][number % 2])
        self.formed(tree, keep(RAIN, ("below", Y, ("number", 1))))
        tree = RAIN
        for _ in range(3001):
            tree = ("shape", tree, (("x", Y), ("y", X)))
        self.formed(tree, ("shape", RAIN, (("x", Y), ("y", X))))

    def test_steps_are_done_in_turn(self):
        tree = RAIN
        for number in range(25):
            tree = keep(("both", tree, [SNOW, NAMED][number % 2]), ("below", X, ("number", number % 4)))
        steps = steps_of(SOURCES, tree)
        self.assertEqual(question_text(self.stepped(SOURCES, tree, steps)), question_text(plain_form(SOURCES, tree)))
        self.leads(SOURCES, tree, plain_form(SOURCES, tree))
        self.leads(SOURCES, plain_form(SOURCES, tree), tree)

    def test_boths_and_keeps_by_turns(self):
        for left in (True, False):
            tree = RAIN
            for _ in range(700):
                tree = keep(("both", tree, RAIN) if left else ("both", RAIN, tree), C)
            steps = self.formed(tree, both_of_many([keep(RAIN, C)] * 701))
            self.assertLess(len(steps), 3500)

    def test_shapes_of_boths(self):
        turned = (("x", Y), ("y", X))
        for left in (True, False):
            tree = RAIN
            for _ in range(1000):
                tree = ("shape", ("both", tree, RAIN) if left else ("both", RAIN, tree), turned)
            parts = [RAIN] * 501 + [("shape", RAIN, turned)] * 500
            steps = self.formed(tree, both_of_many(sorted(parts, key=question_text)))
            self.assertEqual(sorted({rule for _, rule in steps} - {"pass", "row", "turn"}), ["onshape", "same", "upshape"])

    def test_conditions(self):
        for word in ("any", "not"):
            condition = C
            for _ in range(3000):
                condition = ("not", condition) if word == "not" else (word, D, condition)
            self.formed(keep(NAMED, condition), keep(RAIN, condition), 1)
            self.formed(keep(BOTH, condition), both(keep(RAIN, condition), keep(SNOW, condition)), 1)
        condition = D
        for _ in range(3000):
            condition = ("all", ("all", YES, C), condition)
        self.formed(keep(RAIN, condition), keep(RAIN, ("all", C, D)), 1)


def both_of_many(trees):
    together = trees[-1]
    for tree in trees[-2::-1]:
        together = ("both", tree, together)
    return together


def all_of_many(conditions):
    together = conditions[-1]
    for condition in conditions[-2::-1]:
        together = ("all", condition, together)
    return together


class RefusedTest(RefusalCase):
    def test_no_sources_are_told_first(self):
        for sources in NO_SOURCES + ANYTHING + [Everything()]:
            for tree in (RAIN, None):
                self.refused(NoSource, plain_form, sources, tree)
                self.refused(NoSource, steps_of, sources, tree)
                self.refused(NoSource, led_by, sources, tree, tree)

    def test_then_what_is_no_tree(self):
        for tree in ANYTHING + [Everything(), deep_tuple(RAIN), ("source", "hail"), ("both", RAIN, WIND), keep(RAIN, ("is", Z, ONE)), deep_keeps(2000, ("source", "x")),
                                ("fold", fold(("pane", 1)), (), ("pane", 1), ())]:
            self.refused(NoQuestion, plain_form, SOURCES, tree)
            self.refused(NoQuestion, steps_of, SOURCES, tree)
            self.refused(NoQuestion, led_by, SOURCES, tree, RAIN)
            self.refused(NoQuestion, led_by, SOURCES, RAIN, tree)
            self.refused(NoQuestion, led_by, SOURCES, tree, tree)

    def test_what_is_told_is_the_askers_own(self):
        tree = keep(RAIN, YES)
        steps_of(SOURCES, tree).clear()
        self.assertEqual(steps_of(SOURCES, tree), [((), "free")])
        led_by(SOURCES, tree, RAIN).clear()
        self.assertEqual(led_by(SOURCES, tree, RAIN), [("forth", (), "free")])
