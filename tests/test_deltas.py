"""lateriver/deltas.py: point 71."""

import copy

from lateriver.bags import added
from lateriver.deltas import delta, touched
from lateriver.errors import NoLetter, NoQuestion
from lateriver.questions import Question
from tests.asking import Maker, slow_answer
from tests.refusals import ANYTHING, RefusalCase
from tests.test_plain import NO_LETTERS, RAIN, SNOW, SOURCES, WIND, X, fold, rain, wind
from tests.test_rivers import Everything

LETTER = ("rain", 5, (1, 2))
FLAT_OR_OTHERS = [
    RAIN, ("keep", RAIN, ("yes",)), ("both", RAIN, SNOW), ("alone", RAIN, WIND, (), 0, 0),
    ("join", RAIN, WIND, (), 0, 0), ("keep", fold(("pane", 5)), ("yes",)), ("shape", fold(("visit", 5)), (("a", ("number", 1)),)),
    ("both", fold(("pane", 5)), fold(("pane", 5))),
]


def question(tree):
    return Question(SOURCES, tree)


class DeltaTest(RefusalCase):
    def test_a_letter_that_comes(self):
        self.assertEqual(delta(question(RAIN), {}, LETTER, 1), {(5, (1, 2)): 1})
        self.assertEqual(delta(question(RAIN), {LETTER: 3}, LETTER, 1), {(5, (1, 2)): 1})
        self.assertEqual(delta(question(("both", RAIN, RAIN)), {}, LETTER, 1), {(5, (1, 2)): 2})
        self.assertEqual(delta(question(("keep", RAIN, ("is", X, ("number", 0)))), {}, LETTER, 1), {})

    def test_a_letter_that_is_taken_back(self):
        self.assertEqual(delta(question(RAIN), {LETTER: 1}, LETTER, -1), {(5, (1, 2)): -1})
        self.assertEqual(delta(question(RAIN), {LETTER: 4}, LETTER, -1), {(5, (1, 2)): -1})
        self.assertEqual(delta(question(fold(("pane", 5))), {LETTER: 1}, LETTER, -1), {(9, (5, 10, 1)): -1})

    def test_counts_above_one(self):
        tree = ("join", RAIN, ("shape", RAIN, (("a", X),)), (), 0, 0)
        self.assertEqual(delta(question(tree), {LETTER: 3}, LETTER, 1), {(5, (1, 2, 1)): 7})
        self.assertEqual(delta(question(tree), {LETTER: 3}, LETTER, -1), {(5, (1, 2, 1)): -5})

    def test_what_comes_by_one_that_goes(self):
        tree = ("alone", RAIN, WIND, (("x", "z"),), -1, 1)
        partner = ("wind", 6, (1,))
        self.assertEqual(delta(question(tree), {LETTER: 2}, partner, 1), {(5, (1, 2)): -2})
        self.assertEqual(delta(question(tree), {LETTER: 2, partner: 1}, partner, -1), {(5, (1, 2)): 2})
        self.assertEqual(delta(question(tree), {LETTER: 2, partner: 2}, partner, -1), {})
        self.assertEqual(delta(question(tree), {LETTER: 2, partner: 2}, LETTER, 1), {})

    def test_windows_that_come_and_go(self):
        letters = rain((5, 0, 0, 1), (9, 0, 0, 2))
        between = ("rain", 7, (1, 1))
        self.assertEqual(delta(question(fold(("visit", 2))), letters, between, 1),
                         {(5, (5, 6, 1)): -1, (9, (9, 10, 2)): -1, (9, (5, 10, 4)): 1})
        self.assertEqual(delta(question(fold(("visit", 2))), {between: 1, **letters}, between, -1),
                         {(5, (5, 6, 1)): 1, (9, (9, 10, 2)): 1, (9, (5, 10, 4)): -1})
        self.assertEqual(delta(question(fold(("slide", 4, 2))), {}, between, 1), {(7, (4, 8, 1)): 1, (9, (6, 10, 1)): 1})

    def test_letters_of_sources_that_are_not_asked_change_nothing(self):
        self.assertEqual(delta(question(RAIN), {LETTER: 1}, ("wind", 6, (1,)), 1), {})
        self.assertEqual(delta(question(RAIN), {("wind", 6, (1,)): 1}, ("wind", 6, (1,)), -1), {})

    def test_many_made_ones(self):
        for number in range(600):
            maker = Maker(number)
            asked = Question(maker.sources, maker.tree())
            letters = maker.letters(8)
            before = copy.deepcopy(letters)
            ahead = slow_answer(maker.sources, asked.tree(), letters)
            for letter in [maker.letter(), maker.letter(), *list(letters)[:2]]:
                behind = {**letters, letter: letters.get(letter, 0) + 1}
                change = delta(asked, letters, letter, 1)
                self.assertEqual(added(ahead, change), slow_answer(maker.sources, asked.tree(), behind))
                self.assertNotIn(0, change.values())
                back = delta(asked, behind, letter, -1)
                self.assertEqual(back, {pair: -count for pair, count in change.items()})
            self.assertEqual(letters, before)

    def test_no_letters(self):
        for letter in NO_LETTERS + ANYTHING + [Everything(), ["rain", 5, (1, 2)], ("rain", 5, [1, 2])]:
            for count in (1, -1):
                self.refused(NoLetter, delta, question(RAIN), {LETTER: 1}, letter, count)
                self.refused(NoLetter, delta, question(WIND), {LETTER: 1}, letter, count)
        for letter in NO_LETTERS:
            self.refused(NoLetter, delta, question(RAIN), {letter: 1}, LETTER, 1)
            self.refused(NoLetter, delta, question(RAIN), {letter: 1}, letter, -1)

    def test_none_is_there_that_could_go(self):
        for letters in ({}, rain((5, 1, 1, 1)), wind((5, 1, 1))):
            before = copy.deepcopy(letters)
            for tree in (RAIN, WIND, fold(("pane", 5))):
                self.refused(NoLetter, delta, question(tree), letters, LETTER, -1)
            self.assertEqual(letters, before)


class TouchedTest(RefusalCase):
    def test_panes_and_slides(self):
        self.assertEqual(touched(question(fold(("pane", 5))), {}, LETTER), [((), 5)])
        self.assertEqual(touched(question(fold(("pane", 5), ("y", "x"))), {LETTER: 2}, LETTER), [((2, 1), 5)])
        self.assertEqual(touched(question(fold(("slide", 4, 2), ("x",))), {}, LETTER), [((1,), 2), ((1,), 4)])
        self.assertEqual(touched(question(fold(("slide", 1, 2))), {}, LETTER), [])

    def test_visits(self):
        letters = rain((5, 0, 0, 1), (9, 0, 0, 2), (30, 0, 0, 1))
        for moment, expected in [(7, [5, 9]), (3, [3, 5]), (2, [2]), (11, [9]), (12, [12]), (5, [5]), (9, [9])]:
            self.assertEqual(touched(question(fold(("visit", 2))), letters, ("rain", moment, (1, 1))),
                             [((), begin) for begin in expected])

    def test_folds_of_joins(self):
        tree = ("fold", ("join", RAIN, WIND, (), -3, 3), ("x", "z"), ("pane", 5), ())
        letters = rain((4, 0, 0, 1), (6, 1, 0, 1), (6, 0, 3, 2), (9, 2, 2, 1))
        self.assertEqual(touched(question(tree), letters, ("wind", 5, (2,))), [((0, 2), 5), ((1, 2), 5)])
        self.assertEqual(touched(question(tree), letters, ("wind", 12, (2,))), [((2, 2), 10)])
        self.assertEqual(touched(question(tree), letters, ("wind", 19, (2,))), [])
        self.assertEqual(touched(question(tree), letters, ("snow", 5, (0, 0))), [])

    def test_many_made_ones(self):
        for number in range(400):
            maker = Maker(number)
            tree = maker.fold()
            letters, letter = maker.letters(8), maker.letter()
            before = copy.deepcopy(letters)
            ahead = slow_answer(maker.sources, tree, letters)
            behind = slow_answer(maker.sources, tree, {**letters, letter: letters.get(letter, 0) + 1})
            many = len(tree[2])
            expected = sorted({(row[:many], row[many]) for _, row in set(ahead) ^ set(behind)})
            self.assertEqual(touched(Question(maker.sources, tree), letters, letter), expected)
            self.assertEqual(letters, before)

    def test_what_is_no_fold_is_told_first(self):
        for tree in FLAT_OR_OTHERS:
            for letter in [LETTER, None, ("hail", 5, (1,))]:
                self.refused(NoQuestion, touched, question(tree), {}, letter)
            self.refused(NoQuestion, touched, question(tree), {None: 1}, LETTER)

    def test_no_letters(self):
        for letter in NO_LETTERS + ANYTHING + [Everything()]:
            self.refused(NoLetter, touched, question(fold(("pane", 5))), {LETTER: 1}, letter)
        for letter in NO_LETTERS:
            self.refused(NoLetter, touched, question(fold(("pane", 5))), {letter: 1}, LETTER)
