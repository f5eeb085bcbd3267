"""lateriver/finals.py: point 91, and of point 2 (b)."""

import copy
import itertools

from lateriver.errors import NoQuestion, NoSpot
from lateriver.finals import open_spots, settled, ways_of
from lateriver.plain import answer_of, spot_of
from lateriver.questions import Question
from lateriver.rivers import River
from tests.asking import Maker, slow_answer, slow_columns, slow_ways
from tests.refusals import ANYTHING, RefusalCase
from tests.test_plain import NO_FOLD_SPOTS, NO_SPOTS, RAIN, SNOW, SOURCES, WIND, X, Y, fold
from tests.test_rivers import told_of

FINAL = ("final",)
SMALL = [
    (("a", (("x", 1),)),), (("a", (("x", 1),)), ("b", (("y", 0),))),
    (("a", (("x", 0),)), ("b", (("y", 0),)), ("c", (("z", 0),))),
]
NEITHER = [
    ("keep", fold(("pane", 5)), ("yes",)), ("keep", ("alone", RAIN, WIND, (), 0, 0), ("yes",)),
    ("shape", fold(("visit", 5)), (("a", ("number", 1)),)), ("both", fold(("pane", 5)), fold(("pane", 5))),
    ("both", RAIN, ("alone", SNOW, WIND, (), 0, 0)),
]


def question(tree):
    return Question(SOURCES, tree)


def river_of(*happenings):
    river = River(SOURCES)
    for happening in happenings:
        river.take(happening)
    return river


def letter(name, moment, *row):
    return ("letter", (name, moment, row))


class SettledCase(RefusalCase):
    def told_otherwise(self, asked, river, where, row):
        """The row's happenings are letters and backs, none late, and the spot is told otherwise behind them."""
        self.assertIs(type(row), list)
        other = river.twin()
        for happening in row:
            self.assertIn(happening[0], ("letter", "back"))
            self.assertIs(other.take(happening), True)
        self.assertNotEqual(spot_of(asked, other.standing(), where), spot_of(asked, river.standing(), where))

    def may(self, asked, river, where, many=None):
        before = told_of(river)
        told = settled(asked, river, where)
        self.assertEqual(len(told), 2)
        self.assertEqual(told[0], "may")
        self.told_otherwise(asked, river, where, told[1])
        if many is not None:
            self.assertEqual(len(told[1]), many)
        self.assertEqual(told_of(river), before)
        return told[1]

    def final(self, asked, river, where):
        before = told_of(river)
        self.assertEqual(settled(asked, river, where), FINAL)
        self.assertEqual(told_of(river), before)


class WaysTest(RefusalCase):
    def test_source(self):
        self.assertEqual(ways_of(question(RAIN), (5, (1, 2))), [(("rain", 5, (1, 2)),)])
        self.assertEqual(ways_of(question(RAIN), (10 ** 9, (0, 0))), [(("rain", 10 ** 9, (0, 0)),)])
        for row in [(3, 2), (1, 6), (-1, 2), (1, -2)]:
            self.assertEqual(ways_of(question(RAIN), (5, row)), [])

    def test_keep(self):
        tree = ("keep", RAIN, ("below", X, ("number", 1)))
        self.assertEqual(ways_of(question(tree), (5, (0, 2))), [(("rain", 5, (0, 2)),)])
        self.assertEqual(ways_of(question(tree), (5, (1, 2))), [])

    def test_shape(self):
        tree = ("shape", RAIN, (("a", ("sum", X, Y)),))
        self.assertEqual(ways_of(question(tree), (5, (2,))), [(("rain", 5, (x, 2 - x)),) for x in range(3)])
        self.assertEqual(ways_of(question(tree), (5, (8,))), [])

    def test_both(self):
        self.assertEqual(ways_of(question(("both", SNOW, RAIN)), (5, (1, 2))),
                         [(("rain", 5, (1, 2)),), (("snow", 5, (1, 2)),)])
        self.assertEqual(ways_of(question(("both", RAIN, RAIN)), (5, (1, 2))), [(("rain", 5, (1, 2)),)])

    def test_join(self):
        tree = ("join", RAIN, WIND, (("x", "z"),), -1, 2)
        self.assertEqual(ways_of(question(tree), (5, (1, 2, 1))), [
            (("rain", 3, (1, 2)), ("wind", 5, (1,))), (("rain", 4, (1, 2)), ("wind", 5, (1,))),
            (("rain", 5, (1, 2)), ("wind", 4, (1,))), (("rain", 5, (1, 2)), ("wind", 5, (1,))),
        ])
        self.assertEqual(ways_of(question(tree), (0, (1, 2, 1))), [(("rain", 0, (1, 2)), ("wind", 0, (1,)))])
        self.assertEqual(ways_of(question(tree), (5, (1, 2, 2))), [])

    def test_a_letter_beside_itself_stands_once_in_a_way(self):
        tree = ("join", RAIN, ("shape", RAIN, (("a", X),)), (), 0, 0)
        self.assertEqual(ways_of(question(tree), (5, (1, 0, 1))), [
            (("rain", 5, (1, 0)),), *[(("rain", 5, (1, 0)), ("rain", 5, (1, y))) for y in range(1, 6)],
        ])

    def test_many_made_ones(self):
        for number in range(250):
            maker = Maker(number)
            tree = maker.big_flat(4)
            asked = Question(maker.sources, tree)
            letters = maker.letters(9, 5)
            spots = list(answer_of(asked, letters))[:4]
            spots += [(maker.random.randint(0, 5), tuple(maker.random.randint(-1, 2) for _ in asked.columns()))]
            for where in spots:
                ways = ways_of(asked, where)
                slow = slow_ways(maker.sources, tree, *where)
                self.assertEqual(ways, sorted(tuple(sorted(way)) for way in slow))
                self.assertEqual(any(set(way) <= set(letters) for way in ways), where in answer_of(asked, letters))

    def test_what_is_not_flat_is_told_first(self):
        for tree in NEITHER + [fold(("pane", 5)), fold(("visit", 5)), ("alone", RAIN, WIND, (), 0, 0)]:
            for where in [(5, (1, 2)), ((), 5), None]:
                self.refused(NoQuestion, ways_of, question(tree), where)

    def test_no_spots(self):
        for where in NO_SPOTS + ANYTHING:
            self.refused(NoSpot, ways_of, question(RAIN), where)


class SettledFlatTest(SettledCase):
    def test_an_open_letter(self):
        for happenings in [(), (letter("rain", 5, 1, 2),), (letter("rain", 5, 1, 2),) * 3, (("mark", "rain", 5),)]:
            row = self.may(question(RAIN), river_of(*happenings), (5, (1, 2)), 1)
            self.assertIn(row[0], [(word, ("rain", 5, (1, 2))) for word in ("letter", "back")])

    def test_a_closed_letter(self):
        for happenings in [(("mark", "rain", 6),), (("end", "rain"),), (letter("rain", 5, 1, 2), ("mark", "rain", 6))]:
            self.final(question(RAIN), river_of(*happenings), (5, (1, 2)))
        self.may(question(RAIN), river_of(("mark", "wind", 6), ("end", "snow")), (5, (1, 2)), 1)

    def test_what_can_never_stand(self):
        self.final(question(RAIN), river_of(), (5, (3, 2)))
        self.final(question(("keep", RAIN, ("not", ("yes",)))), river_of(), (5, (1, 2)))
        self.final(question(("join", RAIN, WIND, (), 1, 2)), river_of(), (0, (1, 2, 1)))

    def test_moments_far_away(self):
        self.may(question(RAIN), river_of(("mark", "rain", 10 ** 9)), (10 ** 9, (1, 2)), 1)
        self.final(question(RAIN), river_of(("mark", "rain", 10 ** 9)), (10 ** 9 - 1, (1, 2)))

    def test_joins(self):
        tree = ("join", RAIN, WIND, (("x", "z"),), -1, 2)
        where = (5, (1, 2, 1))
        self.may(question(tree), river_of(), where, 2)
        self.may(question(tree), river_of(letter("rain", 3, 1, 2)), where, 1)
        self.may(question(tree), river_of(letter("rain", 2, 1, 2)), where, 2)
        self.may(question(tree), river_of(("mark", "wind", 5)), where, 2)
        self.final(question(tree), river_of(("mark", "wind", 6)), where)
        self.final(question(tree), river_of(letter("wind", 5, 1), ("mark", "wind", 6), ("mark", "rain", 6)), where)
        self.may(question(tree), river_of(letter("wind", 4, 1), ("mark", "wind", 6), ("mark", "rain", 5)), where, 1)
        self.final(question(tree), river_of(letter("wind", 3, 1), ("mark", "wind", 6), ("mark", "rain", 5)), where)
        self.may(question(tree), river_of(letter("rain", 3, 1, 2), ("end", "rain")), where, 1)
        self.final(question(tree), river_of(letter("rain", 2, 1, 2), ("end", "rain")), where)
        self.may(question(tree), river_of(letter("rain", 5, 1, 2), letter("wind", 5, 1), ("end", "rain")), where, 1)

    def test_a_letter_beside_itself(self):
        tree = ("join", RAIN, ("shape", RAIN, (("a", X),)), (), -1, 0)
        self.may(question(tree), river_of(), (5, (1, 2, 1)), 1)
        self.may(question(tree), river_of(), (5, (1, 2, 0)), 2)
        self.may(question(tree), river_of(letter("rain", 4, 0, 3)), (5, (1, 2, 0)), 1)
        self.may(question(("join", tree, ("shape", RAIN, (("b", Y),)), (), 0, 0)), river_of(), (5, (1, 2, 0, 4)), 2)
        self.may(question(("join", tree, ("shape", RAIN, (("b", Y),)), (), 0, 0)), river_of(), (5, (1, 2, 1, 2)), 1)
        self.may(question(("join", tree, ("shape", RAIN, (("b", Y),)), (), 1, 1)), river_of(), (5, (1, 2, 1, 2)), 2)
        self.may(question(("join", tree, ("shape", SNOW, (("b", Y),)), (), 1, 1)), river_of(), (5, (1, 2, 0, 2)), 3)

    def test_a_way_that_stands_closed_beside_an_open_one(self):
        where = (5, (1, 2))
        closed = [letter("rain", 5, 1, 2), ("end", "rain")]
        for tree in [("both", RAIN, SNOW), ("both", SNOW, RAIN)]:
            self.may(question(tree), river_of(*closed), where, 1)
            self.may(question(tree), river_of(*closed, letter("snow", 5, 1, 2)), where, 1)
            self.may(question(tree), river_of(*closed, letter("snow", 5, 1, 2), ("mark", "snow", 5)), where, 1)
            self.final(question(tree), river_of(*closed, letter("snow", 5, 1, 2), ("mark", "snow", 6)), where)
            joined = ("join", tree, WIND, (), 0, 0)
            river = river_of(*closed, letter("snow", 5, 1, 2), letter("wind", 5, 0), ("end", "wind"))
            self.may(question(joined), river, (5, (1, 2, 0)), 1)

    def test_the_fewest_of_many_ways(self):
        for number in range(400):
            maker = Maker(number)
            tree = maker.big_flat(5)
            asked = Question(maker.sources, tree)
            river = River(maker.sources)
            for happening in maker.happenings(river, 8, 5):
                river.take(happening)
            sample = answer_of(asked, maker.letters(12, 5))
            spots = sorted(sample)[:3] + [(3, tuple(maker.random.randint(0, 1) for _ in asked.columns()))]
            for where in spots:
                lacks = [
                    [one for one in way if one not in river.standing()]
                    for way in slow_ways(maker.sources, tree, *where)
                    if any(river.is_open(one) for one in way)
                    and all(river.is_open(one) or one in river.standing() for one in way)
                ]
                if lacks:
                    self.may(asked, river, where, max(1, min(len(lack) for lack in lacks)))
                else:
                    self.final(asked, river, where)


class SettledWindowTest(SettledCase):
    def test_panes(self):
        for keys, where in [((), ((), 5)), (("x",), ((1,), 5)), (("y", "x"), ((2, 1), 5))]:
            asked = question(fold(("pane", 5), keys))
            for mark, final in [(1, False), (5, False), (9, False), (10, True), (11, True)]:
                for happenings in [(), (letter("rain", 5, 1, 2),), (letter("rain", 9, 1, 2),) * 2]:
                    river = river_of(*happenings, ("mark", "rain", mark))
                    self.final(asked, river, where) if final else self.may(asked, river, where, 1)
            self.final(asked, river_of(letter("rain", 5, 1, 2), ("end", "rain")), where)
            self.may(asked, river_of(("mark", "wind", 50), ("end", "snow")), where, 1)

    def test_where_no_window_begins(self):
        for window, begins in [(("pane", 5), (0, 5, 10)), (("slide", 4, 2), (0, 2, 4, 6, 8, 10)), (("slide", 2, 3), (0, 3, 6, 9))]:
            for begin in range(11):
                asked = question(fold(window))
                if begin in begins:
                    self.may(asked, river_of(), ((), begin), 1)
                else:
                    self.final(asked, river_of(), ((), begin))

    def test_slides(self):
        asked = question(fold(("slide", 4, 2), ("x",)))
        for mark, begin, final in [(5, 2, False), (6, 2, True), (7, 4, False), (8, 4, True), (7, 6, False), (8, 2, True)]:
            for happenings in [(), (letter("rain", 5, 1, 2), letter("rain", 4, 1, 2))]:
                river = river_of(*happenings, ("mark", "rain", mark))
                self.final(asked, river, ((1,), begin)) if final else self.may(asked, river, ((1,), begin), 1)

    def test_keys_that_no_row_has(self):
        asked = question(fold(("pane", 5), ("x",)))
        for number in (-1, 3, 10 ** 9):
            self.final(asked, river_of(), ((number,), 5))
        tree = ("fold", ("keep", RAIN, ("below", X, ("number", 1))), ("x",), ("pane", 5), ())
        self.final(question(tree), river_of(), ((1,), 5))
        self.may(question(tree), river_of(), ((0,), 5), 1)

    def test_folds_of_joins(self):
        tree = ("fold", ("join", RAIN, WIND, (), -2, 3), ("z",), ("pane", 5), (("a", "sum", "y"),))
        where = ((1,), 5)
        self.may(question(tree), river_of(), where, 2)
        self.may(question(tree), river_of(letter("rain", 2, 0, 0)), where, 1)
        self.may(question(tree), river_of(letter("rain", 1, 0, 0)), where, 2)
        self.final(question(tree), river_of(letter("rain", 5, 0, 0), ("end", "wind")), where)
        self.may(question(tree), river_of(letter("wind", 5, 1), ("end", "wind"), ("mark", "rain", 7)), where, 1)
        self.final(question(tree), river_of(letter("wind", 5, 1), ("end", "wind"), ("mark", "rain", 8)), where)
        self.final(question(tree), river_of(letter("wind", 5, 0), ("end", "wind")), where)

    def test_a_shorter_row_later_in_the_window(self):
        tree = ("fold", ("join", RAIN, WIND, (), 0, 0), (), ("pane", 5), ())
        for moment in range(5, 10):
            self.may(question(tree), river_of(letter("wind", moment, 1)), ((), 5), 1)
        self.may(question(tree), river_of(letter("wind", 4, 1), letter("wind", 10, 1)), ((), 5), 2)

    def test_what_may_change_at_moment_0_alone(self):
        joined = ("join", RAIN, WIND, (), 0, 0)
        happenings = [letter("wind", 0, 1), ("end", "wind")]
        self.may(question(("fold", joined, (), ("pane", 5), ())), river_of(*happenings), ((), 0), 1)
        self.final(question(("fold", joined, (), ("pane", 5), ())), river_of(*happenings), ((), 5))
        shaped = ("shape", joined, (("x", X), ("y", Y)))
        tree = ("fold", ("both", SNOW, shaped), (), ("visit", 3), ())
        for moment in (1, 3):
            river = river_of(*happenings, letter("snow", moment, 0, 0), ("end", "snow"))
            self.may(question(tree), river, ((), moment))
        self.final(question(tree), river_of(*happenings, letter("snow", 4, 0, 0), ("end", "snow")), ((), 4))

    def test_a_term_that_can_tell_300_rows(self):
        big = (("a", (("u", 4), ("v", 4), ("w", 5))), ("b", (("x", 1),)))
        tree = ("fold", ("join", ("source", "a"), ("source", "b"), (), -10, 10), (), ("slide", 20, 1), ())
        asked, river = Question(big, tree), River(big)
        self.may(asked, river, ((), 100), 2)
        for happening in [("letter", ("a", 95, (1, 2, 3))), ("mark", "a", 121), ("mark", "b", 90)]:
            river.take(happening)
        self.may(asked, river, ((), 100), 1)
        river.take(("mark", "b", 106))
        self.final(asked, river, ((), 100))

    def test_open_spots(self):
        asked = question(fold(("pane", 5), ("x",)))
        happenings = [letter("rain", m, x, 0) for m, x in [(1, 0), (6, 1), (6, 0), (11, 2), (16, 1)]]
        expected = [((0,), 0), ((0,), 5), ((1,), 5), ((1,), 15), ((2,), 10)]
        self.assertEqual(open_spots(asked, river_of()), [])
        self.assertEqual(open_spots(asked, river_of(*happenings)), expected)
        for mark, closed in [(4, 0), (5, 5), (9, 5), (10, 10), (15, 15), (20, 20)]:
            river = river_of(*happenings, ("mark", "rain", mark))
            before = told_of(river)
            self.assertEqual(open_spots(asked, river), [(keys, begin) for keys, begin in expected if begin >= closed])
            self.assertEqual(told_of(river), before)
        self.assertEqual(open_spots(asked, river_of(*happenings, ("end", "rain"))), [])

    def test_open_spots_of_slides_of_joins(self):
        tree = ("fold", ("join", RAIN, WIND, (), -1, 1), (), ("slide", 4, 2), ())
        river = river_of(letter("rain", 3, 0, 0), letter("wind", 4, 1), ("end", "rain"), ("mark", "wind", 4))
        self.assertEqual(open_spots(question(tree), river), [((), 2), ((), 4)])
        river.take(("mark", "wind", 5))
        self.assertEqual(open_spots(question(tree), river), [])


class SettledVisitTest(SettledCase):
    asked = question(fold(("visit", 3), ("x",)))

    def test_a_visit_that_stands(self):
        happenings = [letter("rain", 10, 1, 0), letter("rain", 12, 1, 5)]
        for mark, final in [(7, False), (10, False), (12, False), (15, False), (16, True)]:
            river = river_of(*happenings, ("mark", "rain", mark))
            self.final(self.asked, river, ((1,), 10)) if final else self.may(self.asked, river, ((1,), 10))
        self.may(self.asked, river_of(*happenings), ((1,), 10))
        self.final(self.asked, river_of(*happenings, ("end", "rain")), ((1,), 10))

    def test_what_comes_ahead_of_a_visit(self):
        tree = ("fold", ("both", ("keep", RAIN, ("yes",)), SNOW), ("x",), ("visit", 3), ())
        happenings = [letter("rain", 10, 1, 0), ("end", "rain")]
        self.may(question(tree), river_of(*happenings), ((1,), 10))
        river = river_of(*happenings, ("mark", "snow", 14))
        self.final(question(tree), river, ((1,), 10))
        ahead = ("keep", SNOW, ("is", Y, ("number", 9)))
        tree = ("fold", ("both", RAIN, ahead), ("x",), ("visit", 3), ())
        self.final(question(tree), river_of(*happenings), ((1,), 10))

    def test_only_ahead_of_a_visit(self):
        tree = ("fold", ("both", RAIN, ("shape", ("join", WIND, SNOW, (), 5, 5), (("x", X), ("y", Y)))), ("x",), ("visit", 3), ())
        for moment, final in [(1, True), (2, False), (4, False), (5, False), (8, False), (9, True)]:
            happenings = [letter("rain", 10, 1, 0), ("end", "rain"), letter("wind", moment, 1), ("end", "wind")]
            if final:
                self.final(question(tree), river_of(*happenings), ((1,), 10))
            else:
                self.may(question(tree), river_of(*happenings), ((1,), 10))

    def test_where_no_visit_begins(self):
        where = ((1,), 10)
        self.may(self.asked, river_of(), where)
        self.may(self.asked, river_of(("mark", "rain", 10)), where)
        self.final(self.asked, river_of(("mark", "rain", 11)), where)
        self.final(self.asked, river_of(("end", "rain")), where)
        for moment, barred in [(6, False), (7, True), (9, True)]:
            happenings = [letter("rain", moment, 1, 3), letter("rain", 10, 1, 0)]
            self.may(self.asked, river_of(*happenings), where)
            river = river_of(*happenings, ("mark", "rain", 10))
            self.final(self.asked, river, where) if barred else self.may(self.asked, river, where)
            if not barred:
                self.assertIsNotNone(spot_of(self.asked, river.standing(), where))
        self.final(self.asked, river_of(), ((3,), 10))

    def test_a_visit_that_comes_by_backs_alone(self):
        river = river_of(letter("rain", 8, 1, 3), letter("rain", 8, 1, 3), letter("rain", 10, 1, 0), ("mark", "rain", 8))
        row = self.may(self.asked, river, ((1,), 10))
        self.assertEqual(row.count(("back", ("rain", 8, (1, 3)))), 2)

    def test_keys_apart(self):
        river = river_of(letter("rain", 9, 2, 3), ("mark", "rain", 10))
        self.may(self.asked, river, ((1,), 10))
        self.final(self.asked, river, ((2,), 10))

    def test_what_bars_whatever_stands(self):
        # Each row of the join brings one of the keep, no more than the gap ahead of it.
        tree = ("fold", ("both", ("join", SNOW, WIND, (), 2, 2), ("join", SNOW, WIND, (), 0, 0)), (), ("visit", 3), ())
        self.may(question(tree), river_of(), ((), 10))
        shaped = ("shape", SNOW, (("x", X), ("y", Y), ("z", ("number", 0))))
        tree = ("fold", ("both", ("join", SNOW, WIND, (), 2, 2), shaped), (), ("visit", 3), ())
        river = river_of(("mark", "snow", 9), ("mark", "wind", 10))
        self.may(question(tree), river, ((), 10))
        river = river_of(letter("snow", 8, 1, 1), ("mark", "snow", 11))
        self.final(question(tree), river, ((), 10))
        self.may(question(tree), river, ((), 8))


class SettledAloneTest(SettledCase):
    asked = question(("alone", RAIN, WIND, (("x", "z"),), -1, 2))
    where = (5, (1, 2))

    def test_one_that_is_told(self):
        there = letter("rain", 5, 1, 2)
        self.may(self.asked, river_of(there), self.where)
        self.may(self.asked, river_of(there, ("end", "wind")), self.where)
        self.may(self.asked, river_of(there, ("end", "rain")), self.where)
        self.may(self.asked, river_of(there, ("end", "rain"), ("mark", "wind", 7)), self.where)
        self.final(self.asked, river_of(there, ("end", "rain"), ("mark", "wind", 8)), self.where)
        self.final(self.asked, river_of(there, ("mark", "rain", 6), ("end", "wind")), self.where)
        self.may(self.asked, river_of(there, there, ("mark", "rain", 5), ("end", "wind")), self.where)

    def test_one_that_is_not_there(self):
        self.may(self.asked, river_of(), self.where)
        self.final(self.asked, river_of(("mark", "rain", 6)), self.where)
        self.final(self.asked, river_of(), (5, (3, 2)))
        self.may(self.asked, river_of(("end", "wind")), self.where)

    def test_one_beside_a_partner(self):
        there = letter("rain", 5, 1, 2)
        for moment in (4, 5, 7):
            partner = letter("wind", moment, 1)
            row = self.may(self.asked, river_of(there, partner, partner), self.where)
            self.assertEqual(row, [("back", partner[1])] * 2)
            self.final(self.asked, river_of(there, partner, ("mark", "wind", moment + 1)), self.where)
            self.final(self.asked, river_of(partner, ("mark", "wind", moment + 1)), self.where)
            self.may(self.asked, river_of(partner, partner, ("mark", "wind", moment)), self.where)
            self.may(self.asked, river_of(there, partner, ("end", "rain")), self.where)
        for moment in (3, 8):
            self.may(self.asked, river_of(letter("wind", moment, 1), ("end", "wind")), self.where)
        self.may(self.asked, river_of(letter("wind", 5, 0), ("end", "wind")), self.where)

    def test_partners_at_one_moment_alone(self):
        tree = ("alone", RAIN, ("join", SNOW, WIND, (), 0, 0), (("x", "z"),), -3, 2)
        for moment in range(10):
            river = river_of(letter("rain", 5, 1, 2), ("end", "rain"), letter("wind", moment, 1), ("end", "wind"))
            if 2 <= moment <= 7:
                self.may(question(tree), river, self.where, 1)
            else:
                self.final(question(tree), river, self.where)
        river = river_of(letter("rain", 1, 1, 2), ("end", "rain"), letter("wind", 0, 1), ("end", "wind"))
        self.may(question(tree), river, (1, (1, 2)), 1)

    def test_what_brings_its_partner(self):
        tree = ("alone", RAIN, ("shape", RAIN, (("a", X),)), (("x", "a"),), 0, 0)
        self.final(question(tree), river_of(), self.where)
        self.final(question(tree), river_of(letter("rain", 5, 1, 2)), self.where)
        tree = ("alone", RAIN, ("shape", RAIN, (("a", X),)), (("y", "a"),), 0, 0)
        self.may(question(tree), river_of(), self.where)
        self.final(question(tree), river_of(), (5, (2, 2)))
        tree = ("alone", ("join", RAIN, WIND, (), -3, 3), RAIN, (("x", "x"),), 1, 2)
        self.may(question(tree), river_of(), (5, (1, 2, 0)))
        river = river_of(letter("wind", 5, 0), ("mark", "wind", 6), ("mark", "rain", 3))
        self.may(question(tree), river, (5, (1, 2, 0)))
        tree = ("alone", ("join", RAIN, WIND, (), 1, 3), RAIN, (("x", "x"),), -3, -1)
        self.final(question(tree), river_of(), (5, (1, 2, 0)))

    def test_rows_go_beyond_the_bounds(self):
        asked = question(("alone", RAIN, WIND, (("x", "z"),), 200, 201))
        self.may(asked, river_of(letter("rain", 5, 1, 2), ("end", "rain")), self.where)
        self.final(asked, river_of(letter("rain", 5, 1, 2), ("end", "rain"), ("mark", "wind", 207)), self.where)


class AllCountsTest(SettledCase):
    """Each spot is held against all counts of the open letters, up to one more than there are."""

    def fewest_changes(self, asked, river, where, last):
        """How many happenings lead to counts by which the spot is told otherwise; None where none do."""
        names = asked.source_names()
        standing = river.standing()
        free = [
            (name, moment, row) for name, columns in asked.sources() if name in names for moment in range(last + 1)
            for row in itertools.product(*[range(top + 1) for _, top in columns]) if river.is_open((name, moment, row))
        ]
        counts = [sorted({0, 1, standing.get(one, 0), standing.get(one, 0) + 1}) for one in free]
        fixed = {one: count for one, count in standing.items() if not river.is_open(one)}
        now, found = spot_of(asked, standing, where), []
        if len(free) > 6:
            return "too many"
        for chosen in itertools.product(*counts):
            letters = {**fixed, **{one: count for one, count in zip(free, chosen) if count}}
            if spot_of(asked, letters, where) != now:
                found.append(sum(abs(count - standing.get(one, 0)) for one, count in zip(free, chosen)))
        return min(found, default=None)

    def looked_at(self, asked, river, where, last=5):
        fewest = self.fewest_changes(asked, river, where, last)
        if fewest == "too many":
            return
        told = settled(asked, river, where)
        if told == FINAL:
            self.assertIsNone(fewest)
            return
        row = self.may(asked, river, where)
        window = asked.tree()[3] if asked.tree()[0] == "fold" else ("none",)
        within = all(happening[1][1] <= last for happening in row)
        if asked.tree()[0] != "alone" and window[0] != "visit":
            self.assertEqual(len(row), fewest) if within else self.assertIsNone(fewest)

    def test_many_made_ones(self):
        for number in range(260):
            maker = Maker(number, SMALL[number % 3])
            tree = maker.random.choice([maker.flat, maker.alone, maker.alone, maker.fold, maker.fold])()
            asked, river = Question(maker.sources, tree), River(maker.sources)
            for _ in range(maker.random.randint(0, 6)):
                river.take(("letter", maker.letter(5)))
            for name, _ in maker.sources:
                river.take(("mark", name, maker.random.randint(3, 6)) if maker.random.random() < 0.8 else ("end", name))
            answer = slow_answer(maker.sources, tree, river.standing())
            with self.subTest(number=number):
                if tree[0] == "fold":
                    many = len(tree[2])
                    spots = sorted({(row[:many], row[many]) for _, row in answer})[:3]
                    spots += [(tuple(maker.random.randint(0, 1) for _ in range(many)), begin) for begin in (2, 3, 4, 5)]
                else:
                    spots = sorted(answer)[:3]
                    columns = slow_columns(maker.sources, tree)
                    spots += [(moment, tuple(maker.random.randint(0, 1) for _ in columns)) for moment in (2, 3, 4, 5)]
                for where in spots:
                    self.looked_at(asked, river, where)
                if tree[0] == "fold" and tree[3][0] != "visit":
                    stand = sorted({(row[:many], row[many]) for _, row in answer})
                    self.assertEqual(open_spots(asked, river), [one for one in stand if settled(asked, river, one) != FINAL])


class RefusedTest(RefusalCase):
    def refused_unchanged(self, error, function, asked, river, *told):
        before = told_of(river)
        self.refused(error, function, asked, river, *told)
        self.assertEqual(told_of(river), before)

    def test_questions_of_other_sorts_are_told_first(self):
        river = river_of(letter("rain", 5, 1, 2))
        for tree in NEITHER:
            for where in [(5, (1, 2)), ((), 5), (5, (1,)), None]:
                self.refused_unchanged(NoQuestion, settled, question(tree), river, where)
        for tree in NEITHER + [RAIN, ("alone", RAIN, WIND, (), 0, 0), fold(("visit", 5))]:
            self.refused_unchanged(NoQuestion, open_spots, question(tree), river)

    def test_questions_of_other_sources(self):
        for sources in (SOURCES[:1], (SOURCES[1], SOURCES[0], SOURCES[2]), (("rain", (("x", 2), ("y", 4))),) + SOURCES[1:]):
            for tree, where in [(RAIN, (5, (1, 2))), (fold(("pane", 5)), ((), 5)), (fold(("visit", 5)), ((), 5))]:
                self.refused_unchanged(NoQuestion, settled, Question(sources, tree), river_of(), where)
                self.refused_unchanged(NoQuestion, settled, Question(sources, tree), river_of(), None)
            self.refused_unchanged(NoQuestion, open_spots, Question(sources, fold(("pane", 5))), river_of())

    def test_no_spots(self):
        river = river_of(letter("rain", 5, 1, 2), ("mark", "rain", 3))
        for where in NO_SPOTS + ANYTHING:
            self.refused_unchanged(NoSpot, settled, question(RAIN), river, where)
            self.refused_unchanged(NoSpot, settled, question(("alone", RAIN, WIND, (), 0, 0)), river, where)
        for where in NO_FOLD_SPOTS + ANYTHING:
            for window in [("pane", 5), ("slide", 5, 2), ("visit", 5)]:
                self.refused_unchanged(NoSpot, settled, question(fold(window, ("x",))), river, where)

    def test_what_is_told_is_the_askers_own(self):
        river = river_of(letter("rain", 5, 1, 2))
        for asked, where in [(question(RAIN), (5, (1, 2))), (question(fold(("visit", 5))), ((), 5))]:
            first = settled(asked, river, where)
            before = copy.deepcopy(first)
            first[1].append("x")
            self.assertEqual(settled(asked, river, where), before)
        asked = question(fold(("pane", 5)))
        open_spots(asked, river).append("x")
        self.assertEqual(open_spots(asked, river), [((), 5)])
        ways_of(question(RAIN), (5, (1, 2))).append("x")
        self.assertEqual(len(ways_of(question(RAIN), (5, (1, 2)))), 1)
