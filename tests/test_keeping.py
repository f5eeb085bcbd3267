"""lateriver/keeping.py: point 101, and of point 2 (c)."""

import itertools

from lateriver.bags import less
from lateriver.errors import NoLetter, NoQuestion
from lateriver.keeping import asked_for, kept_of, lessened
from lateriver.questions import Question
from lateriver.rivers import River
from tests.asking import Maker, slow_answer
from tests.refusals import ANYTHING, RefusalCase
from tests.test_finals import NEITHER, SMALL, letter, question, river_of
from tests.test_plain import NO_LETTERS, RAIN, SNOW, SOURCES, WIND, X, fold
from tests.test_rivers import told_of

JOINED = ("join", RAIN, WIND, (("x", "z"),), -1, 2)
OTHERS = NEITHER + [("alone", RAIN, WIND, (), 0, 0), fold(("visit", 5))]


def slow_changes(sources, tree, letters, row):
    """The changes of a tree by the happenings of a further row, of letters that are told with their counts."""
    letters, found = dict(letters), []
    ahead = slow_answer(sources, tree, letters)
    for word, one in row:
        letters[one] = letters.get(one, 0) + (1 if word == "letter" else -1)
        letters = {other: count for other, count in letters.items() if count}
        behind = slow_answer(sources, tree, letters)
        found.append(less(behind, ahead))
        ahead = behind
    return found


class KeepingCase(RefusalCase):
    def asked(self, asked, river, one):
        """The letter is asked for: the further row is taken, none of it late, and changes otherwise without it."""
        before = told_of(river)
        row = asked_for(asked, river, one)
        self.assertIs(type(row), list)
        self.assertEqual(told_of(river), before)
        other = river.twin()
        for happening in row:
            self.assertIn(happening[0], ("letter", "back"))
            self.assertIs(other.take(happening), True)
        without = {letter: count for letter, count in river.standing().items() if letter != one}
        sources, tree = asked.sources(), asked.tree()
        self.assertNotEqual(slow_changes(sources, tree, river.standing(), row), slow_changes(sources, tree, without, row))
        self.assertIn(one, kept_of(asked, river))

    def not_asked(self, asked, river, one):
        before = told_of(river)
        self.assertIsNone(asked_for(asked, river, one))
        self.assertNotIn(one, kept_of(asked, river))
        self.assertEqual(told_of(river), before)


class FlatTest(KeepingCase):
    def test_a_letter_alone_is_never_asked_for(self):
        river = river_of(letter("rain", 5, 1, 2), letter("rain", 5, 1, 2), ("mark", "rain", 6))
        for tree in [RAIN, ("both", RAIN, RAIN), ("keep", RAIN, ("yes",)), ("shape", RAIN, (("a", X),)), WIND]:
            self.not_asked(question(tree), river, ("rain", 5, (1, 2)))

    def test_partners_that_may_come(self):
        there = [letter("rain", 5, 1, 2), ("mark", "rain", 6)]
        for mark, asked in [(1, True), (4, True), (7, True), (8, False)]:
            river = river_of(*there, ("mark", "wind", mark))
            (self.asked if asked else self.not_asked)(question(JOINED), river, ("rain", 5, (1, 2)))
        self.not_asked(question(JOINED), river_of(*there, ("end", "wind")), ("rain", 5, (1, 2)))
        partner = [letter("wind", 7, 1), letter("wind", 7, 1)]
        self.asked(question(JOINED), river_of(*there, *partner, ("mark", "wind", 7)), ("rain", 5, (1, 2)))
        self.not_asked(question(JOINED), river_of(*there, *partner, ("mark", "wind", 8)), ("rain", 5, (1, 2)))

    def test_rows_that_no_condition_keeps(self):
        river = river_of(letter("rain", 5, 1, 2), letter("rain", 5, 0, 2), ("end", "rain"))
        tree = ("keep", JOINED, ("below", X, ("number", 1)))
        self.not_asked(question(tree), river, ("rain", 5, (1, 2)))
        self.asked(question(tree), river, ("rain", 5, (0, 2)))
        joined = ("join", RAIN, WIND, (("y", "z"),), -1, 2)
        self.asked(question(joined), river, ("rain", 5, (1, 2)))
        river = river_of(letter("rain", 5, 1, 3), ("end", "rain"))
        self.not_asked(question(joined), river, ("rain", 5, (1, 3)))

    def test_what_stands_closed_between(self):
        tree = ("join", ("join", RAIN, WIND, (), 0, 0), ("shape", SNOW, (("a", X),)), (), 0, 0)
        happenings = [letter("rain", 5, 1, 2), ("end", "rain"), ("end", "wind")]
        self.not_asked(question(tree), river_of(*happenings), ("rain", 5, (1, 2)))
        river = river_of(letter("wind", 5, 1), *happenings)
        self.asked(question(tree), river, ("rain", 5, (1, 2)))
        self.asked(question(tree), river, ("wind", 5, (1,)))
        river = river_of(letter("wind", 5, 1), *happenings, ("mark", "snow", 6))
        self.not_asked(question(tree), river, ("rain", 5, (1, 2)))

    def test_a_letter_beside_others_of_its_source(self):
        tree = ("join", RAIN, ("shape", RAIN, (("a", X),)), (), 1, 1)
        river = river_of(letter("rain", 4, 1, 2), letter("rain", 5, 1, 2), letter("rain", 3, 1, 2), ("mark", "rain", 6))
        self.asked(question(tree), river, ("rain", 5, (1, 2)))
        self.not_asked(question(tree), river, ("rain", 4, (1, 2)))
        self.asked(question(("join", RAIN, ("shape", RAIN, (("a", X),)), (), -2, -2)), river, ("rain", 4, (1, 2)))

    def test_the_first_moments(self):
        river = river_of(letter("wind", 0, 1), ("end", "wind"))
        self.asked(question(("join", RAIN, WIND, (), 0, 3)), river, ("wind", 0, (1,)))
        self.not_asked(question(("join", RAIN, WIND, (), 1, 3)), river, ("wind", 0, (1,)))
        river = river_of(letter("rain", 0, 1, 1), letter("rain", 1, 1, 1), ("end", "rain"))
        self.asked(question(("join", RAIN, WIND, (), 0, 0)), river, ("rain", 0, (1, 1)))
        self.asked(question(("join", RAIN, WIND, (), -1, -1)), river, ("rain", 1, (1, 1)))
        self.not_asked(question(("join", RAIN, WIND, (), -1, -1)), river, ("rain", 0, (1, 1)))


class WindowTest(KeepingCase):
    def test_panes(self):
        happenings = [letter("rain", 6, 1, 2), ("mark", "rain", 7)]
        for keys in [(), ("x",), ("y", "x")]:
            asked = question(fold(("pane", 5), keys))
            self.asked(asked, river_of(*happenings), ("rain", 6, (1, 2)))
            self.asked(asked, river_of(*happenings, ("mark", "rain", 9)), ("rain", 6, (1, 2)))
            self.not_asked(asked, river_of(*happenings, ("mark", "rain", 10)), ("rain", 6, (1, 2)))
            self.not_asked(asked, river_of(*happenings, ("end", "rain")), ("rain", 6, (1, 2)))

    def test_slides(self):
        happenings = [letter("rain", 6, 1, 2), ("mark", "rain", 7)]
        for window, last in [(("slide", 4, 2), 9), (("slide", 6, 3), 11), (("slide", 4, 4), 7), (("slide", 2, 6), 7)]:
            asked = question(fold(window))
            self.asked(asked, river_of(*happenings, *([("mark", "rain", last)] if last > 7 else [])), ("rain", 6, (1, 2)))
            self.not_asked(asked, river_of(*happenings, ("mark", "rain", last + 1)), ("rain", 6, (1, 2)))

    def test_moments_in_no_window(self):
        river = river_of(letter("rain", 7, 1, 2), ("mark", "rain", 8))
        self.not_asked(question(fold(("slide", 2, 5))), river, ("rain", 7, (1, 2)))
        river = river_of(letter("wind", 7, 1), ("end", "wind"))
        for step, asked in [(7, True), (5, False)]:
            tree = ("fold", ("join", RAIN, WIND, (), 0, 0), (), ("slide", 2, step), ())
            (self.asked if asked else self.not_asked)(question(tree), river, ("wind", 7, (1,)))

    def test_keys_apart(self):
        tree = ("fold", ("both", RAIN, ("keep", SNOW, ("below", X, ("number", 1)))), ("x",), ("pane", 5), ())
        river = river_of(letter("rain", 5, 1, 2), letter("rain", 5, 0, 2), ("end", "rain"))
        self.not_asked(question(tree), river, ("rain", 5, (1, 2)))
        self.asked(question(tree), river, ("rain", 5, (0, 2)))

    def test_sums_that_stay_as_they_are(self):
        # The counts change all the same, so a least that stays least asks for the letter.
        asked = question(fold(("pane", 5), (), (("a", "least", "y"),)))
        river = river_of(letter("rain", 5, 1, 2), letter("rain", 5, 1, 0), ("mark", "rain", 6))
        self.asked(asked, river, ("rain", 5, (1, 2)))
        self.asked(asked, river, ("rain", 5, (1, 0)))

    def test_windows_in_which_the_letter_never_counts(self):
        tree = ("fold", ("join", RAIN, WIND, (), 0, 0), (), ("pane", 5), ())
        river = river_of(letter("rain", 5, 1, 2), ("end", "rain"), ("mark", "wind", 6))
        self.not_asked(question(tree), river, ("rain", 5, (1, 2)))
        river = river_of(letter("rain", 5, 1, 2), letter("rain", 6, 0, 0), ("end", "rain"), ("mark", "wind", 6))
        self.not_asked(question(tree), river, ("rain", 5, (1, 2)))
        self.asked(question(tree), river, ("rain", 6, (0, 0)))
        happenings = [letter("wind", 5, 1), letter("rain", 5, 1, 2), letter("rain", 6, 0, 0), ("end", "rain"), ("mark", "wind", 6)]
        self.asked(question(tree), river_of(*happenings), ("rain", 5, (1, 2)))
        self.asked(question(tree), river_of(*happenings), ("wind", 5, (1,)))


class KeptTest(KeepingCase):
    def test_kept_rise_and_open_ones_stay(self):
        river = river_of(
            letter("wind", 9, 0), letter("snow", 1, 0, 0), letter("rain", 9, 1, 2), letter("rain", 4, 2, 2),
            letter("rain", 5, 1, 2), letter("rain", 5, 1, 2), ("mark", "rain", 6), ("mark", "wind", 7),
        )
        before = told_of(river)
        expected = [("rain", 4, (2, 2)), ("rain", 5, (1, 2)), ("rain", 9, (1, 2)), ("snow", 1, (0, 0)), ("wind", 9, (0,))]
        self.assertEqual(kept_of(question(JOINED), river), expected[1:])
        tree = ("join", RAIN, WIND, (), 0, 3)
        self.assertEqual(kept_of(question(tree), river), expected)
        self.assertEqual(kept_of(question(WIND), river), expected[2:])
        self.assertEqual(told_of(river), before)

    def test_a_lessened_river(self):
        river = river_of(
            letter("rain", 5, 1, 2), letter("rain", 5, 1, 2), letter("rain", 4, 2, 2), letter("rain", 9, 0, 0),
            ("mark", "rain", 6), ("mark", "wind", 7), ("end", "snow"), letter("rain", 1, 1, 1),
        )
        before = told_of(river)
        other = lessened(question(JOINED), river)
        self.assertIsInstance(other, River)
        self.assertEqual(other.sources(), SOURCES)
        self.assertEqual(list(other.standing().items()), [(("rain", 5, (1, 2)), 2), (("rain", 9, (0, 0)), 1)])
        self.assertEqual([other.mark(name) for name in ("rain", "wind", "snow")], [6, 7, None])
        other.take(letter("wind", 7, 1))
        other.take(("end", "rain"))
        self.assertEqual(told_of(river), before)

    def test_marks_of_lessened_rivers(self):
        other = lessened(question(WIND), river_of(("mark", "rain", 1), ("mark", "snow", 1), ("end", "snow")))
        self.assertEqual([other.mark(name) for name in ("rain", "wind", "snow")], [1, 0, None])

    def test_what_is_told_is_the_askers_own(self):
        river = river_of(letter("rain", 5, 1, 2), ("mark", "rain", 6))
        asked_for(question(JOINED), river, ("rain", 5, (1, 2))).clear()
        kept_of(question(JOINED), river).clear()
        self.asked(question(JOINED), river, ("rain", 5, (1, 2)))


class ManyMadeTest(KeepingCase):
    def made(self, number, sources):
        maker = Maker(number, sources)
        tree = maker.random.choice([maker.flat, lambda: maker.fold(3, 2, ("pane", "slide"))])()
        river = River(maker.sources)
        for _ in range(maker.random.randint(0, 6)):
            river.take(("letter", maker.letter(5)))
        for name, _ in maker.sources:
            river.take(("mark", name, maker.random.randint(3, 6)) if maker.random.random() < 0.8 else ("end", name))
        return maker, Question(maker.sources, tree), river

    def changes_of_any(self, maker, asked, river, one, others):
        """Whether some letter changes otherwise without this one, whichever of some open letters stand."""
        sources, tree, names = asked.sources(), asked.tree(), asked.source_names()
        free = [
            (name, moment, row) for name, columns in sources if name in names for moment in range(8)
            for row in itertools.product(*[range(top + 1) for _, top in columns]) if river.is_open((name, moment, row))
        ]
        free = maker.random.sample(free, min(len(free), 5))
        closed = {letter: count for letter, count in river.standing().items() if not river.is_open(letter)}
        for chosen in itertools.product([0, 1], repeat=len(free)):
            letters = {**closed, **{letter: 1 for letter, count in zip(free, chosen) if count}}
            without = {letter: count for letter, count in letters.items() if letter not in others}
            for letter in free:
                row = [("letter", letter)]
                if slow_changes(sources, tree, letters, row) != slow_changes(sources, tree, without, row):
                    return True
        return False

    def test_each_letter(self):
        asked_many = 0
        for number in range(300):
            maker, asked, river = self.made(number, SMALL[number % 3])
            before = told_of(river)
            kept = kept_of(asked, river)
            self.assertEqual(kept, sorted(kept))
            for one in river.standing():
                if river.is_open(one):
                    self.assertIn(one, kept)
                elif one in kept:
                    asked_many += 1
                    self.asked(asked, river, one)
                else:
                    self.not_asked(asked, river, one)
                    if number % 3 == 0:
                        self.assertFalse(self.changes_of_any(maker, asked, river, one, [one]), number)
            self.assertEqual(told_of(river), before)
        self.assertGreater(asked_many, 30)

    def test_lessened_rivers_are_answered_alike(self):
        for number in range(150):
            maker, asked, river = self.made(number, None)
            other = lessened(asked, river)
            self.assertEqual(list(other.standing().items()),
                             [(one, river.standing()[one]) for one in kept_of(asked, river)])
            for name, _ in asked.sources():
                self.assertEqual(other.mark(name), river.mark(name))
            row = [("letter", one) for one in maker.letters(9, 9) if river.is_open(one)]
            self.assertEqual(slow_changes(asked.sources(), asked.tree(), river.standing(), row),
                             slow_changes(asked.sources(), asked.tree(), other.standing(), row))

    def test_all_that_is_not_kept_may_go_at_once(self):
        for number in range(120):
            maker, asked, river = self.made(number, SMALL[number % 3])
            gone = [one for one in river.standing() if one not in kept_of(asked, river)]
            self.assertFalse(self.changes_of_any(maker, asked, river, None, gone), number)


class RefusedTest(RefusalCase):
    def refused_unchanged(self, error, function, asked, river, *told):
        before = told_of(river)
        self.refused(error, function, asked, river, *told)
        self.assertEqual(told_of(river), before)

    def test_questions_of_other_sorts_or_sources(self):
        river = river_of(letter("rain", 5, 1, 2), ("mark", "rain", 6))
        others = [question(tree) for tree in OTHERS] + [Question(SOURCES[:1], RAIN), Question(SOURCES[:1], fold(("pane", 5)))]
        for asked in others:
            for one in [("rain", 5, (1, 2)), ("rain", 7, (1, 2)), None]:
                self.refused_unchanged(NoQuestion, asked_for, asked, river, one)
            self.refused_unchanged(NoQuestion, kept_of, asked, river)
            self.refused_unchanged(NoQuestion, lessened, asked, river)

    def test_what_does_not_stand_closed(self):
        river = river_of(letter("rain", 5, 1, 2), letter("rain", 1, 1, 2), letter("wind", 1, 1), ("mark", "rain", 2))
        for one in NO_LETTERS + ANYTHING + [
            ("rain", 5, (1, 2)), ("rain", 1, (2, 2)), ("rain", 0, (1, 2)), ("wind", 1, (1,)), ["rain", 1, (1, 2)],
            ("rain", True, (1, 2)), ("rain", 1, (True, 2)), ("rain", 1, [1, 2]), ("letter", ("rain", 1, (1, 2))),
        ]:
            for tree in (RAIN, JOINED, fold(("pane", 5))):
                self.refused_unchanged(NoLetter, asked_for, question(tree), river, one)
