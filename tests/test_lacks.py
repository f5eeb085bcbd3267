"""lateriver/lacks.py: point 121, and of point 2 (e)."""

import itertools

from lateriver.errors import NoQuestion, NoSpot
from lateriver.finals import settled
from lateriver.lacks import falling, freed, lacking
from lateriver.plain import answer_of, spot_of
from lateriver.questions import Question
from lateriver.rivers import River
from tests.asking import Maker, many_terms, slow_columns, slow_rows, slow_ways
from tests.refusals import ANYTHING, RefusalCase
from tests.test_finals import SMALL, letter, question, river_of
from tests.test_keeping import OTHERS
from tests.test_plain import NO_FOLD_SPOTS, NO_SPOTS, RAIN, SNOW, SOURCES, WIND, X, Y, fold
from tests.test_rivers import told_of

THERE, GONE, NEVER = ("there",), ("gone",), ("never",)
JOINED = ("join", RAIN, WIND, (("x", "z"),), -1, 2)
A = ("rain", 5, (1, 2))


def stands(asked, letters, where):
    return spot_of(asked, letters, where) not in (0, None)


class LacksCase(RefusalCase):
    def told(self, function, asked, river, where):
        before = told_of(river)
        found = function(asked, river, where)
        self.assertEqual(told_of(river), before)
        self.assertIs(type(found), tuple)
        return found


class LackingTest(LacksCase):
    def lacks(self, tree, river, where, expected):
        self.assertEqual(self.told(lacking, question(tree), river, where), expected)

    def test_letters(self):
        self.lacks(RAIN, river_of(letter("rain", 5, 1, 2)), (5, (1, 2)), THERE)
        self.lacks(RAIN, river_of(letter("rain", 5, 1, 2), ("end", "rain")), (5, (1, 2)), THERE)
        self.lacks(RAIN, river_of(), (5, (1, 2)), ("come", (A,)))
        self.lacks(RAIN, river_of(("mark", "rain", 5)), (5, (1, 2)), ("come", (A,)))
        self.lacks(RAIN, river_of(("mark", "rain", 6)), (5, (1, 2)), ("never", [((A,), A)]))
        self.lacks(RAIN, river_of(("end", "rain")), (5, (1, 2)), ("never", [((A,), A)]))
        self.lacks(RAIN, river_of(), (5, (3, 2)), ("never", []))
        self.lacks(("keep", RAIN, ("below", X, ("number", 1))), river_of(), (5, (1, 2)), ("never", []))

    def test_the_fewest_and_of_these_the_least(self):
        where = (5, (1, 2, 1))
        near = [(("rain", 3, (1, 2)), ("wind", 5, (1,))), (("rain", 4, (1, 2)), ("wind", 5, (1,))),
                (("rain", 5, (1, 2)), ("wind", 4, (1,))), (("rain", 5, (1, 2)), ("wind", 5, (1,)))]
        self.lacks(JOINED, river_of(), where, ("come", near[0]))
        self.lacks(JOINED, river_of(letter("wind", 4, 1)), where, ("come", (A,)))
        self.lacks(JOINED, river_of(letter("wind", 5, 1)), where, ("come", (("rain", 3, (1, 2)),)))
        self.lacks(JOINED, river_of(letter("wind", 5, 1), ("mark", "rain", 4)), where, ("come", (("rain", 4, (1, 2)),)))
        self.lacks(JOINED, river_of(letter("rain", 5, 1, 2)), where, ("come", (("wind", 4, (1,)),)))
        self.lacks(JOINED, river_of(("mark", "rain", 5)), where, ("come", near[2]))
        self.lacks(JOINED, river_of(("mark", "rain", 5), ("mark", "wind", 5)), where, ("come", near[3]))
        self.lacks(JOINED, river_of(letter("rain", 5, 1, 2), letter("wind", 4, 1)), where, THERE)
        self.lacks(JOINED, river_of(letter("wind", 4, 1), ("end", "wind"), ("end", "rain")), where, ("never", [
            (near[0], ("rain", 3, (1, 2))), (near[1], ("rain", 4, (1, 2))), (near[2], A), (near[3], A),
        ]))
        self.lacks(JOINED, river_of(letter("rain", 3, 1, 2), ("end", "wind"), ("mark", "rain", 5)), where, ("never", [
            (near[0], ("wind", 5, (1,))), (near[1], ("rain", 4, (1, 2))), (near[2], ("wind", 4, (1,))),
            (near[3], ("wind", 5, (1,))),
        ]))

    def test_letters_in_common(self):
        tree = ("join", RAIN, ("shape", RAIN, (("a", X),)), (), -1, 0)
        self.lacks(tree, river_of(), (5, (1, 2, 1)), ("come", (A,)))
        self.lacks(tree, river_of(), (5, (1, 2, 0)), ("come", (("rain", 4, (0, 0)), A)))
        self.lacks(tree, river_of(letter("rain", 5, 0, 4)), (5, (1, 2, 0)), ("come", (A,)))
        three = ("join", tree, ("shape", RAIN, (("b", Y),)), (), 0, 0)
        self.lacks(three, river_of(), (5, (1, 2, 0, 4)), ("come", (("rain", 5, (0, 4)), A)))
        self.lacks(three, river_of(), (5, (1, 2, 1, 2)), ("come", (A,)))

    def test_many_ways_with_letters_in_common(self):
        sources = (("a", (("x", 1),)),)
        parts = [("source", "a")] + [("shape", ("source", "a"), ((name, X),)) for name in ("p", "q", "r")]
        for low, high, between in [(1, 6, (-5, 5)), (0, 5, (-5, 5)), (-4, -1, (-5, 5)), (0, 4, (5, 7))]:
            halves = [("join", *parts[:2], (), low, high), ("join", *parts[2:], (), low, high)]
            asked = Question(sources, ("join", *halves, (), *between))
            for where in [(9, (0, 1, 0, 1)), (9, (1, 1, 1, 1)), (9, (0, 0, 1, 0))]:
                ways = [tuple(sorted(way)) for way in slow_ways(sources, asked.tree(), *where)]
                for happenings in [[], [letter("a", 7, 1)], [letter("a", 9, 0), ("mark", "a", 6)], [letter("a", 5, 0), ("mark", "a", 8)]]:
                    river = River(sources)
                    for happening in happenings:
                        river.take(happening)
                    lacks = [[one for one in way if one not in river.standing()] for way in ways]
                    lacks = [lack for lack in lacks if all(river.is_open(one) for one in lack)]
                    fewest = min([(len(lack), tuple(lack)) for lack in lacks], default=None)
                    told, row = self.told(lacking, asked, river, where), self.told(settled, asked, river, where)
                    if fewest is None:
                        self.assertEqual((told[0], row), ("never", ("final",)))
                    else:
                        self.assertEqual(told, ("come", fewest[1]))
                        self.assertEqual(len(row[1]), fewest[0])

    def test_windows(self):
        tree = ("fold", RAIN, ("x",), ("pane", 5), ())
        where = ((1,), 5)
        self.lacks(tree, river_of(letter("rain", 9, 1, 5)), where, THERE)
        self.lacks(tree, river_of(letter("rain", 10, 1, 5), letter("rain", 4, 1, 5), letter("rain", 5, 0, 5)), where,
                   ("come", (("rain", 5, (1, 0)),)))
        self.lacks(tree, river_of(("mark", "rain", 8)), where, ("come", (("rain", 8, (1, 0)),)))
        ways = [(("rain", moment, (1, y)),) for moment in range(5, 10) for y in range(6)]
        self.lacks(tree, river_of(("mark", "rain", 10)), where, ("never", [(way, way[0]) for way in ways]))
        self.lacks(tree, river_of(), ((1,), 6), ("never", []))
        self.lacks(tree, river_of(), ((3,), 5), ("never", []))
        self.lacks(fold(("slide", 2, 3)), river_of(letter("rain", 5, 0, 0)), ((), 3), ("come", (("rain", 3, (0, 0)),)))
        self.lacks(fold(("slide", 2, 3)), river_of(), ((), 5), ("never", []))
        self.lacks(fold(("slide", 4, 2)), river_of(letter("rain", 5, 0, 0)), ((), 2), THERE)


class FallingTest(LacksCase):
    def falls(self, tree, river, where, expected):
        self.assertEqual(self.told(falling, question(tree), river, where), expected)

    def test_letters(self):
        where = (5, (1, 2))
        self.falls(RAIN, river_of(), where, GONE)
        self.falls(RAIN, river_of(letter("rain", 5, 1, 2), letter("rain", 5, 1, 2)), where, ("back", (A,)))
        self.falls(RAIN, river_of(letter("rain", 5, 1, 2), ("mark", "rain", 6)), where, ("stays", (A,)))
        self.falls(RAIN, river_of(letter("rain", 5, 1, 2), ("end", "rain")), where, ("stays", (A,)))
        both = ("both", RAIN, SNOW)
        snow = ("snow", 5, (1, 2))
        self.falls(both, river_of(letter("rain", 5, 1, 2), letter("snow", 5, 1, 2)), where, ("back", (A, snow)))
        self.falls(both, river_of(letter("rain", 5, 1, 2), letter("snow", 5, 1, 2), ("end", "snow")), where, ("stays", (snow,)))
        self.falls(both, river_of(letter("rain", 5, 1, 2), ("end", "snow")), where, ("back", (A,)))

    def test_the_fewest_backs_in_sum(self):
        where = (5, (1, 2, 1))
        wind = ("wind", 5, (1,))
        there = [letter("rain", 5, 1, 2), letter("wind", 5, 1)]
        self.falls(JOINED, river_of(*there), where, ("back", (A,)))
        self.falls(JOINED, river_of(*there, letter("rain", 5, 1, 2)), where, ("back", (wind,)))
        self.falls(JOINED, river_of(*there, *there, letter("rain", 4, 1, 2)), where, ("back", (wind,)))
        two = river_of(*there, letter("wind", 5, 1), letter("rain", 4, 1, 2))
        self.falls(JOINED, two, where, ("back", (("rain", 4, (1, 2)), A)))
        self.falls(JOINED, river_of(*there, *[letter("wind", 5, 1)] * 3, ("end", "rain")), where, ("back", (wind,)))
        self.falls(JOINED, river_of(*there, ("end", "rain"), ("end", "wind")), where, ("stays", (A, wind)))
        self.falls(JOINED, river_of(*there, letter("wind", 4, 1), ("end", "rain"), ("mark", "wind", 5)), where,
                   ("stays", (A, ("wind", 4, (1,)))))

    def test_a_longer_tuple_that_is_less(self):
        joined = ("fold", ("join", RAIN, WIND, (("x", "z"),), -9, 9), ("x",), ("pane", 20), ())
        happenings = [letter("rain", 5, 1, 2), letter("rain", 6, 1, 2), letter("wind", 5, 1), letter("wind", 5, 1)]
        self.falls(joined, river_of(*happenings), ((1,), 0), ("back", (A, ("rain", 6, (1, 2)))))
        happenings = [letter("wind", 5, 1), letter("wind", 6, 1), letter("rain", 5, 1, 2), letter("rain", 5, 1, 2)]
        self.falls(joined, river_of(*happenings), ((1,), 0), ("back", (A,)))

    def test_the_first_way_that_stays(self):
        river = river_of(letter("rain", 8, 1, 0), letter("rain", 6, 1, 3), letter("rain", 9, 1, 1), letter("rain", 5, 0, 0),
                         ("mark", "rain", 9))
        self.falls(fold(("pane", 5), ("x",)), river, ((1,), 5), ("stays", (("rain", 6, (1, 3)),)))
        self.falls(fold(("pane", 5)), river, ((), 5), ("stays", (("rain", 5, (0, 0)),)))
        self.falls(fold(("slide", 2, 1)), river, ((), 9), ("back", (("rain", 9, (1, 1)),)))
        self.falls(fold(("slide", 2, 1)), river, ((), 10), GONE)
        self.falls(fold(("slide", 2, 2)), river, ((), 7), GONE)

    def test_many_letters(self):
        happenings = [letter("rain", 5 + number % 9, number % 3, number % 6) for number in range(30)]
        happenings += [letter("wind", 5 + number % 9, number % 3) for number in range(30)]
        river = river_of(*happenings)
        word, letters = self.told(falling, question(("fold", ("join", RAIN, WIND, (), -2, 3), (), ("pane", 20), ())), river, ((), 0))
        self.assertEqual((word, sum(river.standing()[one] for one in letters)), ("back", 30))
        self.assertEqual(letters, tuple(one for one in river.standing() if one[0] == "rain"))


class FreedTest(LacksCase):
    alone = ("alone", RAIN, WIND, (("x", "z"),), -1, 2)

    def frees(self, tree, river, where, expected):
        self.assertEqual(self.told(freed, question(tree), river, where), expected)

    def test_a_row_and_its_partners(self):
        where, there = (5, (1, 2)), letter("rain", 5, 1, 2)
        winds = [letter("wind", moment, 1) for moment in (3, 4, 5, 7, 8)]
        self.frees(self.alone, river_of(*winds), where, GONE)
        self.frees(self.alone, river_of(there), where, THERE)
        self.frees(self.alone, river_of(there, winds[0], winds[4], letter("wind", 5, 0)), where, THERE)
        self.frees(self.alone, river_of(there, *winds, winds[1]), where,
                   ("back", tuple(("wind", moment, (1,)) for moment in (4, 5, 7))))
        self.frees(self.alone, river_of(there, *winds, ("mark", "wind", 5)), where, NEVER)
        self.frees(self.alone, river_of(there, *winds[2:], ("mark", "wind", 5)), where,
                   ("back", tuple(("wind", moment, (1,)) for moment in (5, 7))))
        self.frees(self.alone, river_of(there, winds[2], ("end", "rain")), where, ("back", (("wind", 5, (1,)),)))

    def test_partners_of_many_letters(self):
        tree = ("alone", RAIN, ("join", SNOW, WIND, (), 0, 0), (("x", "z"),), 0, 0)
        there, snow, wind = letter("rain", 5, 1, 2), letter("snow", 5, 0, 0), letter("wind", 5, 1)
        self.frees(tree, river_of(there, snow, wind), (5, (1, 2)), ("back", (snow[1],)))
        self.frees(tree, river_of(there, snow, snow, wind), (5, (1, 2)), ("back", (wind[1],)))
        self.frees(tree, river_of(there, snow, snow, wind, ("end", "wind")), (5, (1, 2)), ("back", (snow[1],)))
        self.frees(tree, river_of(there, snow, wind, ("end", "wind"), ("end", "snow")), (5, (1, 2)), NEVER)

    def test_the_row_still_stands(self):
        tree = ("alone", RAIN, ("join", ("shape", RAIN, (("a", X),)), WIND, (), 0, 0), (("x", "a"),), 0, 0)
        there, wind = letter("rain", 5, 1, 2), letter("wind", 5, 0)
        self.frees(tree, river_of(there, wind, wind), (5, (1, 2)), ("back", (wind[1],)))
        self.frees(tree, river_of(there, wind, ("end", "wind")), (5, (1, 2)), NEVER)
        self.frees(tree, river_of(there, wind, wind, letter("rain", 5, 1, 4), ("end", "wind")), (5, (1, 2)), NEVER)

    def test_a_row_that_can_stand_in_many_ways(self):
        shaped = ("shape", RAIN, (("a", X),))
        tree = ("alone", shaped, ("keep", RAIN, ("is", Y, ("number", 2))), (("a", "x"),), 0, 0)
        both = [letter("rain", 5, 1, 2), letter("rain", 5, 1, 3)]
        self.frees(tree, river_of(both[0]), (5, (1,)), NEVER)
        self.frees(tree, river_of(*both), (5, (1,)), ("back", (A,)))
        self.frees(tree, river_of(*both, ("end", "rain")), (5, (1,)), NEVER)


    def test_the_least_of_what_keeps_the_row(self):
        # By either letter the row stands, and either one brings a partner beside its wind.
        partners = ("keep", ("join", RAIN, WIND, (), 0, 0), ("is", Y, ("sum", ("column", "z"), ("number", 2))))
        tree = ("alone", ("shape", RAIN, (("a", X),)), partners, (("a", "x"),), 0, 0)
        happenings = [letter("rain", 5, 1, 2), letter("rain", 5, 1, 3), letter("wind", 5, 0), letter("wind", 5, 1)]
        self.frees(tree, river_of(*happenings), (5, (1,)), ("back", (A, ("wind", 5, (1,)))))
        self.frees(tree, river_of(*happenings, *[happenings[0]] * 4), (5, (1,)), ("back", (("rain", 5, (1, 3)), ("wind", 5, (0,)))))
        self.frees(tree, river_of(*happenings, *[happenings[1]] * 4), (5, (1,)), ("back", (A, ("wind", 5, (1,)))))
        self.frees(tree, river_of(*happenings, *happenings[:2] * 4), (5, (1,)), ("back", (("wind", 5, (0,)), ("wind", 5, (1,)))))


class ManyMadeTest(LacksCase):
    """Each spot is held against all ways, and all letters that may be taken back."""

    def ways(self, sources, tree, where):
        """The rising list of all ways of a spot, of a flat question or a fold of panes or slides."""
        spots = [where]
        if tree[0] == "fold":
            _, tree, keys, window, _ = tree
            columns = slow_columns(sources, tree)
            places = [columns.index(key) for key in keys]
            rows = [row for row in sorted(set(slow_rows(sources, tree))) if tuple(row[at] for at in places) == where[0]]
            begins = where[1] % window[-1] == 0
            spots = [(moment, row) for moment in range(where[1], where[1] + window[1]) for row in rows if begins]
        return sorted({tuple(sorted(way)) for spot in spots for way in slow_ways(sources, tree, *spot)})

    def fewest_backs(self, river, falls):
        """The least pair of counts in sum and letters behind whose being taken back it falls, None where none is."""
        standing = river.standing()
        free = [one for one in standing if river.is_open(one)]
        found = []
        for many in range(len(free) + 1):
            for letters in itertools.combinations(free, many):
                if falls({one: count for one, count in standing.items() if one not in letters}):
                    found.append((sum(standing[one] for one in letters), letters))
        return min(found, default=None)

    def spots(self, maker, asked, river):
        answer = answer_of(asked, {**maker.letters(8, 6), **river.standing()})
        if asked.tree()[0] != "fold":
            rows = [(moment, tuple(maker.random.randint(0, 1) for _ in asked.columns())) for moment in (0, 3, 5)]
            return sorted(answer)[:4] + rows
        many = len(asked.tree()[2])
        keys = [tuple(maker.random.randint(0, 1) for _ in range(many)) for _ in range(4)]
        return sorted({(row[:many], row[many]) for _, row in answer})[:4] + list(zip(keys, (0, 2, 3, 4)))

    def lacks(self, asked, river, where, ways):
        standing, told = river.standing(), self.told(lacking, asked, river, where)
        lacks = [[one for one in way if one not in standing] for way in ways]
        bars = [[one for one in lack if not river.is_open(one)] for lack in lacks]
        if stands(asked, standing, where):
            self.assertEqual(told, THERE)
        elif [] in bars:
            open_lacks = [lack for lack, bar in zip(lacks, bars) if not bar]
            self.assertEqual(told, ("come", tuple(min((len(lack), lack) for lack in open_lacks)[1])))
        else:
            self.assertEqual(told, ("never", [(way, bar[0]) for way, bar in zip(ways, bars)]))

    def falls(self, asked, river, where, ways):
        standing, told = river.standing(), self.told(falling, asked, river, where)
        stay = [way for way in ways if all(one in standing and not river.is_open(one) for one in way)]
        if not stands(asked, standing, where):
            self.assertEqual(told, GONE)
        elif stay:
            self.assertEqual(told, ("stays", stay[0]))
        else:
            fewest = self.fewest_backs(river, lambda left: not stands(asked, left, where))
            self.assertEqual(told, ("back", fewest[1]))

    def test_lacking_and_falling(self):
        found = {}
        for number in range(350):
            maker = Maker(number, SMALL[number % 3] if number % 2 else None)
            tree = maker.random.choice([maker.flat, lambda: maker.fold(3, 2, ("pane", "slide"))])()
            asked, river = Question(maker.sources, tree), River(maker.sources)
            for happening in maker.happenings(river, 12, 6):
                river.take(happening)
            for where in self.spots(maker, asked, river):
                ways = self.ways(maker.sources, tree, where)
                self.assertEqual(stands(asked, river.standing(), where), any(set(way) <= set(river.standing()) for way in ways))
                with self.subTest(number=number, where=where):
                    self.lacks(asked, river, where, ways)
                    self.falls(asked, river, where, ways)
                    found[lacking(asked, river, where)[0]] = found[falling(asked, river, where)[0]] = True
        self.assertEqual(sorted(found), ["back", "come", "gone", "never", "stays", "there"])

    def test_freed(self):
        found = {}
        for number in range(350):
            maker = Maker(number, SMALL[number % 3] if number % 2 else None)
            tree = maker.alone(maker.random.choice([2, 3]))
            if maker.random.random() < 0.4:
                tree = ("alone", tree[1]) + maker.partners(tree[1], maker.shape(tree[1]))
            if many_terms(tree) > 12:
                continue
            asked, river = Question(maker.sources, tree), River(maker.sources)
            for happening in maker.happenings(river, 12, 6):
                river.take(happening)
            told = answer_of(Question(maker.sources, tree[1]), river.standing())
            for where in sorted(told)[:4] + [(3, (0,) * len(asked.columns()))]:
                freeing = self.told(freed, asked, river, where)
                found[freeing[0]] = True
                if where not in told:
                    self.assertEqual(freeing, GONE)
                elif stands(asked, river.standing(), where):
                    self.assertEqual(freeing, THERE)
                else:
                    fewest = self.fewest_backs(river, lambda left: stands(asked, left, where))
                    self.assertEqual(freeing, NEVER if fewest is None else ("back", fewest[1]))
        self.assertEqual(sorted(found), ["back", "gone", "never", "there"])


class RefusedTest(LacksCase):
    def refused_unchanged(self, error, function, asked, river, where):
        before = told_of(river)
        self.refused(error, function, asked, river, where)
        self.assertEqual(told_of(river), before)

    def test_questions_of_other_sorts_or_sources(self):
        river = river_of(letter("rain", 5, 1, 2))
        others = [question(tree) for tree in OTHERS] + [Question(SOURCES[:1], RAIN), Question(SOURCES[:1], fold(("pane", 5)))]
        for where in [(5, (1, 2)), ((), 5), None]:
            for asked in others:
                self.refused_unchanged(NoQuestion, lacking, asked, river, where)
                self.refused_unchanged(NoQuestion, falling, asked, river, where)
            for tree in [RAIN, JOINED, fold(("pane", 5)), ("keep", FreedTest.alone, ("yes",)), ("both", RAIN, FreedTest.alone)]:
                self.refused_unchanged(NoQuestion, freed, question(tree), river, where)
            self.refused_unchanged(NoQuestion, freed, Question(SOURCES[:2], FreedTest.alone), river, where)

    def test_no_spots(self):
        river = river_of(letter("rain", 5, 1, 2), ("mark", "rain", 3))
        for where in NO_SPOTS + ANYTHING:
            self.refused_unchanged(NoSpot, lacking, question(RAIN), river, where)
            self.refused_unchanged(NoSpot, falling, question(RAIN), river, where)
            self.refused_unchanged(NoSpot, freed, question(FreedTest.alone), river, where)
        for where in NO_FOLD_SPOTS + ANYTHING:
            for window in [("pane", 5), ("slide", 5, 2)]:
                self.refused_unchanged(NoSpot, lacking, question(fold(window, ("x",))), river, where)
                self.refused_unchanged(NoSpot, falling, question(fold(window, ("x",))), river, where)

    def test_what_is_told_is_the_askers_own(self):
        river = river_of(("end", "rain"))
        lacking(question(RAIN), river, (5, (1, 2)))[1].clear()
        self.assertEqual(lacking(question(RAIN), river, (5, (1, 2))), ("never", [((A,), A)]))
