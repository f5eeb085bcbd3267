"""lateriver/mills.py: stage 8 of the document, and of point 2 (a)."""

import copy

from lateriver.bags import added, less, summed
from lateriver.errors import NoLetter, NoMark, NoQuestion, NoSource
from lateriver.mills import Mill
from lateriver.questions import Question, question_text
from lateriver.rivers import River
from tests.asking import TWO, Maker, parts_of, slow_answer
from tests.refusals import ANYTHING, Everything, RefusalCase
from tests.test_plain import RAIN, SNOW, SOURCES, WIND, X, fold
from tests.test_rivers import told_of
from tests.test_sources import BAD as NO_SOURCES

A = ("rain", 5, (1, 2))
KEPT = ("keep", RAIN, ("below", X, ("number", 2)))
PANES = ("fold", KEPT, (), ("pane", 5), ())
JOINED = ("join", KEPT, WIND, (("x", "z"),), -1, 1)
NO_HAPPENINGS = [("letter", ("hail", 5, (1,))), ("letter", A, 1), ["letter", A], ("back", None), ("mark", "rain", True),
                 ("mark", "rain", "5"), ("end",), ("end", ["rain"]), Everything()]


def mill_of(*trees):
    return Mill(SOURCES, [Question(SOURCES, tree) for tree in trees])


def all_of(mill):
    return mill.answers(), mill.looked(), told_of(mill.river())


def subtrees(tree):
    return [tree] + [term for part in parts_of(tree) for term in subtrees(part)]


def asks(tree, name):
    return ("source", name) in subtrees(tree)


class MillTest(RefusalCase):
    def refused_unchanged(self, error, mill, happening):
        before = all_of(mill)
        self.refused(error, mill.take, happening)
        self.assertEqual(all_of(mill), before)

    def test_no_sources_are_told_first(self):
        for sources in NO_SOURCES + ANYTHING + [Everything()]:
            self.refused(NoSource, Mill, sources, [])
            self.refused(NoSource, Mill, sources, None)

    def test_what_is_no_list_of_questions(self):
        good = Question(SOURCES, RAIN)
        for questions in [thing for thing in ANYTHING if thing != []] + [
            Everything(), (good,), good, {good: 1}, {good}, [RAIN], ["rain"], [good, None], [None, good], [good, RAIN],
            [[good]], [Everything()], [good, Question(TWO, RAIN)], [Question(SOURCES[:2], RAIN)], iter([good]),
        ]:
            self.refused(NoQuestion, Mill, SOURCES, questions)

    def test_a_mill_of_no_questions(self):
        mill = Mill(SOURCES, [])
        self.assertEqual(mill.take(("letter", A)), [])
        self.assertEqual((mill.answers(), mill.looked()), ([], 0))
        self.assertEqual(mill.river().standing(), {A: 1})

    def test_changes(self):
        mill = mill_of(RAIN, PANES, WIND)
        self.assertEqual(mill.answers(), [{}, {}, {}])
        self.assertEqual(mill.take(("letter", A)), [[(5, (1, 2), 1)], [(9, (5, 10, 1), 1)], []])
        self.assertEqual(mill.take(("letter", A)), [[(5, (1, 2), 1)], [(9, (5, 10, 1), -1), (9, (5, 10, 2), 1)], []])
        self.assertEqual(mill.take(("letter", ("rain", 6, (2, 2)))), [[(6, (2, 2), 1)], [], []])
        self.assertEqual(mill.take(("back", A)), [[(5, (1, 2), -1)], [(9, (5, 10, 1), 1), (9, (5, 10, 2), -1)], []])
        self.assertEqual(mill.answers(), [{(5, (1, 2)): 1, (6, (2, 2)): 1}, {(9, (5, 10, 1)): 1}, {}])
        self.assertEqual(mill.take(("back", A)), [[(5, (1, 2), -1)], [(9, (5, 10, 1), -1)], []])

    def test_windows_that_come_and_go(self):
        mill = mill_of(fold(("visit", 2)))
        mill.take(("letter", ("rain", 5, (0, 0))))
        mill.take(("letter", ("rain", 9, (0, 0))))
        joined = [[(5, (5, 6, 1), -1), (9, (5, 10, 3), 1), (9, (9, 10, 1), -1)]]
        self.assertEqual(mill.take(("letter", ("rain", 7, (1, 1)))), joined)
        parted = [[(m, row, -count) for m, row, count in joined[0]]]
        self.assertEqual(mill.take(("back", ("rain", 7, (1, 1)))), parted)
        self.assertEqual(mill.answers(), [{(5, (5, 6, 1)): 1, (9, (9, 10, 1)): 1}])

    def test_late_letters_marks_and_ends(self):
        mill = mill_of(RAIN, PANES)
        mill.take(("letter", A))
        before, looked = mill.answers(), mill.looked()
        for happening in [("mark", "rain", 6), ("letter", A), ("mark", "wind", 2), ("end", "wind"), ("letter", ("wind", 9, (1,))),
                          ("end", "rain"), ("letter", ("rain", 50, (1, 1)))]:
            self.assertEqual(mill.take(happening), [[], []])
            self.assertEqual((mill.answers(), mill.looked()), (before, looked))
        self.assertEqual(mill.river().late(), [A, ("wind", 9, (1,)), ("rain", 50, (1, 1))])
        self.assertIsNone(mill.river().mark("rain"))

    def test_sources_named_by_one_letter(self):
        sources = (("r", (("x", 1),)), ("w", (("z", 1),)))
        mill = Mill(sources, [Question(sources, ("source", "r"))])
        for happening in [("mark", "r", 5), ("mark", "w", 5), ("letter", ("r", 4, (1,))), ("end", "w"), ("end", "r")]:
            self.assertEqual(mill.take(happening), [[]])
            self.assertEqual(mill.looked(), 0)

    def test_refused_as_a_river(self):
        mill = mill_of(RAIN, PANES, JOINED)
        for happening in [("letter", A), ("mark", "rain", 5), ("letter", ("wind", 3, (1,))), ("end", "snow")]:
            mill.take(happening)
        for happening in NO_HAPPENINGS + ANYTHING + [("back", ("rain", 6, (1, 2))), ("back", ("rain", 4, (1, 2))),
                                                     ("back", ("snow", 6, (1, 2)))]:
            self.refused_unchanged(NoLetter, mill, happening)
        for happening in [("mark", "rain", 5), ("mark", "rain", 4), ("mark", "wind", 0), ("mark", "snow", 50), ("end", "snow")]:
            self.refused_unchanged(NoMark, mill, happening)
        self.assertEqual(mill.take(("back", A)), [[(5, (1, 2), -1)], [(9, (5, 10, 1), -1)], []])

    def test_looked(self):
        for trees, rain_terms, wind_terms in [
            ([RAIN], 1, 0), ([RAIN, RAIN], 1, 0), ([KEPT], 2, 0), ([KEPT, RAIN, PANES], 3, 0), ([JOINED], 3, 2),
            ([JOINED, PANES, KEPT, WIND], 4, 2), ([("both", KEPT, KEPT)], 3, 0),
            ([("both", KEPT, ("keep", RAIN, ("below", X, ("number", 1))))], 4, 0), ([SNOW], 0, 0),
            ([("both", RAIN, SNOW), JOINED, JOINED], 4, 2), ([("alone", RAIN, WIND, (), 0, 0), WIND], 2, 2), ([], 0, 0),
        ]:
            mill = mill_of(*trees)
            self.assertEqual(mill.looked(), 0)
            mill.take(("letter", A))
            self.assertEqual(mill.looked(), rain_terms)
            mill.take(("letter", ("wind", 5, (1,))))
            self.assertEqual(mill.looked(), rain_terms + wind_terms)
            mill.take(("back", A))
            self.assertEqual(mill.looked(), 2 * rain_terms + wind_terms)

    def test_many_made_ones(self):
        for number in range(250):
            maker = Maker(number)
            trees = [maker.tree() for _ in range(maker.random.randint(1, 3))]
            trees += [part for tree in trees for part in parts_of(tree)][:2]
            mill = Mill(maker.sources, [Question(maker.sources, tree) for tree in trees])
            river, looked, told = River(maker.sources), 0, [[] for _ in trees]
            unlike = {term for tree in trees for term in subtrees(tree)}
            for happening in maker.happenings(river, 14, 6):
                ahead = mill.answers()
                changes = mill.take(happening)
                if river.take(happening) and happening[0] in ("letter", "back"):
                    looked += sum(asks(term, happening[1][0]) for term in unlike)
                else:
                    self.assertEqual(changes, [[] for _ in trees])
                answers = [slow_answer(maker.sources, tree, river.standing()) for tree in trees]
                self.assertEqual(mill.answers(), answers)
                for at, change in enumerate(changes):
                    self.assertEqual(change, sorted(change))
                    self.assertEqual(len({pair[:2] for pair in change}), len(change))
                    self.assertEqual(summed(change), less(answers[at], ahead[at]))
                    told[at] += change
                    self.assertEqual(summed(told[at]), answers[at])
                self.assertEqual(mill.looked(), looked)
            self.assertEqual(told_of(mill.river()), told_of(river))

    def test_in_whatever_order_letters_come(self):
        for number in range(60):
            maker = Maker(number)
            trees = [maker.tree(), maker.fold()]
            letters = [letter for letter, count in maker.letters(8).items() for _ in range(count)]
            gone = [maker.letter() for _ in range(2)]
            orders = [letters + gone, gone + letters, sorted(letters + gone), sorted(letters + gone)[::-1]]
            ends = []
            for order in orders:
                mill = Mill(maker.sources, [Question(maker.sources, tree) for tree in trees])
                totals = [{}, {}]
                for happening in [("letter", letter) for letter in order] + [("back", letter) for letter in gone]:
                    totals = [added(total, summed(change)) for total, change in zip(totals, mill.take(happening))]
                self.assertEqual(totals, mill.answers())
                ends.append(totals)
            self.assertEqual(ends, [ends[0]] * len(orders))

    def test_what_is_handed_in_is_not_kept(self):
        questions = [Question(SOURCES, RAIN)]
        mill = Mill(SOURCES, questions)
        questions.append(Question(SOURCES, WIND))
        questions[0] = Question(SOURCES, SNOW)
        self.assertEqual(mill.take(("letter", A)), [[(5, (1, 2), 1)]])

    def test_what_is_told_is_the_askers_own(self):
        mill = mill_of(RAIN, PANES)
        told = mill.take(("letter", A))
        told[0].append(1)
        told.append(2)
        before = copy.deepcopy(all_of(mill))
        answers = mill.answers()
        answers[0][(5, (1, 2))] = 9
        answers.pop()
        mill.river().take(("letter", A))
        mill.river().take(("end", "rain"))
        self.assertEqual(all_of(mill), before)
        self.assertEqual(mill.take(("letter", A))[0], [(5, (1, 2), 1)])

    def test_mills_are_apart(self):
        questions = [Question(SOURCES, RAIN)]
        one, other = Mill(SOURCES, questions), Mill(SOURCES, questions)
        one.take(("letter", A))
        self.assertEqual((other.answers(), other.looked(), other.river().standing()), ([{}], 0, {}))

    def test_unlike_terms_of_like_words_are_told_apart(self):
        trees = [("keep", RAIN, ("is", X, ("number", number))) for number in (-1, 0, 1, 2)]
        self.assertEqual(len({question_text(tree) for tree in trees}), 4)
        mill = mill_of(*trees)
        self.assertEqual(mill.take(("letter", A)), [[], [], [(5, (1, 2), 1)], []])
