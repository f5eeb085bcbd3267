"""lateriver/rivers.py: point 61."""

import copy

from lateriver.errors import NoLetter, NoMark, NoSource
from lateriver.rivers import River
from tests.asking import Maker
from tests.refusals import ANYTHING, Everything, RefusalCase, deep_tuple
from tests.test_sources import BAD as NO_SOURCES

SOURCES = (("rain", (("x", 2),)), ("wind", (("z", 1), ("y", 0))))
A = ("rain", 5, (1,))
B = ("rain", 5, (2,))
C = ("wind", 3, (0, 0))

NO_HAPPENINGS = [
    ("letter",), ("letter", A, 1), ("letters", A), ("Letter", A), ["letter", A], ("letter", list(A)), ("letter", None),
    ("letter", ("hail", 5, (1,))), ("letter", ("rain", -1, (1,))), ("letter", ("rain", 5, (3,))), ("letter", ("rain", 5, 1)),
    ("letter", ("rain", True, (1,))), ("letter", ("rain", 5, (True,))), ("letter", ("rain", 5, (1, 1))), ("letter", *A),
    ("back",), ("back", A, 1), ("back", ("rain", 5)), ("back", "rain"), ["back", A], ("back", *A), ("back", [*A]),
    ("mark",), ("mark", "rain"), ("mark", "rain", 5, 5), ("mark", "hail", 5), ("mark", 5, "rain"), ("mark", "rain", None),
    ("mark", "rain", "5"), ("mark", "rain", True), ("mark", "rain", False), ("mark", "rain", (5,)), ("mark", None, 5),
    ("mark", A, 5), ("mark", ["rain"], 5), ["mark", "rain", 5], ("mark", "rain", -1), ("mark", "hail", 0),
    ("end",), ("end", "hail"), ("end", "rain", 5), ("end", None), ("end", True), ["end", "rain"], ("end", ["rain"]),
    ("end", A), ("open", "rain"), (None, A), (("letter",), A), (["letter"], A), A, (A,), ("rain", 5), "end",
    ("letter", Everything()), (Everything(), A), Everything(), ("mark", Everything(), 5), ("mark", "rain", Everything()),
    ("end", Everything()), ("letter", deep_tuple("rain")), deep_tuple(("letter", A)), ("", "rain"), ("source", "rain"),
]


def river_of(*happenings):
    river = River(SOURCES)
    for happening in happenings:
        river.take(happening)
    return river


def told_of(river):
    """All that a river tells of itself."""
    marks = [river.mark(name) for name, _ in river.sources()]
    return river.sources(), list(river.standing().items()), river.late(), marks, river.happened()


class SlowRiver:
    """A river by the words of the document, told all happenings that a true one took."""

    def __init__(self):
        self.letters, self.late, self.marks = [], [], {}

    def is_open(self, letter):
        mark = self.marks.get(letter[0], 0)
        return mark is not None and letter[1] >= mark

    def take(self, happening):
        word, thing = happening[0], happening[1]
        if word == "letter":
            (self.letters if self.is_open(thing) else self.late).append(thing)
            return self.is_open(thing)
        if word == "back":
            self.letters.remove(thing)
        else:
            self.marks[thing] = happening[2] if word == "mark" else None
        return True


class RiverTest(RefusalCase):
    def refused_unchanged(self, error, river, happening):
        before = told_of(river)
        self.refused(error, river.take, happening)
        self.assertEqual(told_of(river), before)

    def test_no_sources(self):
        for sources in NO_SOURCES + ANYTHING + [Everything()]:
            self.refused(NoSource, River, sources)

    def test_a_new_river(self):
        river = River(SOURCES)
        self.assertEqual(told_of(river), (SOURCES, [], [], [0, 0], []))
        self.assertIs(river.is_open(("rain", 0, (0,))), True)

    def test_letters(self):
        river = River(SOURCES)
        for letter in (C, B, A, B):
            self.assertIs(river.take(("letter", letter)), True)
        self.assertEqual(list(river.standing().items()), [(A, 1), (B, 2), (C, 1)])
        self.assertEqual(river.late(), [])
        self.assertEqual(river.happened(), [("letter", letter) for letter in (C, B, A, B)])

    def test_backs(self):
        river = river_of(("letter", A), ("letter", A), ("letter", B))
        self.assertIs(river.take(("back", A)), True)
        self.assertEqual(river.standing(), {A: 1, B: 1})
        self.assertIs(river.take(("back", A)), True)
        self.assertEqual(river.standing(), {B: 1})
        self.refused_unchanged(NoLetter, river, ("back", A))
        self.refused_unchanged(NoLetter, river, ("back", C))
        self.assertIs(river.take(("letter", A)), True)
        self.assertEqual(river.standing(), {A: 1, B: 1})

    def test_marks(self):
        river = River(SOURCES)
        self.assertIs(river.take(("mark", "rain", 5)), True)
        self.assertEqual((river.mark("rain"), river.mark("wind")), (5, 0))
        for moment, is_open in [(0, False), (4, False), (5, True), (6, True)]:
            self.assertIs(river.is_open(("rain", moment, (0,))), is_open)
            self.assertIs(river.is_open(("wind", moment, (0, 0))), True)
        self.assertIs(river.take(("letter", ("rain", 4, (1,)))), False)
        self.assertIs(river.take(("letter", A)), True)
        self.assertIs(river.take(("letter", C)), True)
        self.assertEqual(river.standing(), {A: 1, C: 1})
        self.assertEqual(river.late(), [("rain", 4, (1,))])

    def test_marks_that_are_not_above(self):
        river = River(SOURCES)
        self.refused_unchanged(NoMark, river, ("mark", "rain", 0))
        river.take(("mark", "rain", 5))
        for moment in (0, 4, 5):
            self.refused_unchanged(NoMark, river, ("mark", "rain", moment))
        self.assertIs(river.take(("mark", "rain", 6)), True)
        self.assertIs(river.take(("mark", "wind", 1)), True)

    def test_ends(self):
        river = river_of(("letter", A))
        self.assertIs(river.take(("end", "rain")), True)
        self.assertIsNone(river.mark("rain"))
        self.assertEqual(river.mark("wind"), 0)
        self.assertIs(river.is_open(("rain", 10 ** 9, (0,))), False)
        self.assertIs(river.is_open(C), True)
        self.assertIs(river.take(("letter", ("rain", 10 ** 9, (1,)))), False)
        self.refused_unchanged(NoMark, river, ("end", "rain"))
        self.refused_unchanged(NoMark, river, ("mark", "rain", 0))
        self.refused_unchanged(NoMark, river, ("mark", "rain", 10 ** 9))
        self.refused_unchanged(NoLetter, river, ("back", A))
        self.assertEqual(river.standing(), {A: 1})
        self.assertIs(river.take(("end", "wind")), True)

    def test_backs_of_closed_ones_are_refused_and_never_late(self):
        river = river_of(("letter", A), ("mark", "rain", 6))
        self.refused_unchanged(NoLetter, river, ("back", A))
        self.refused_unchanged(NoLetter, river, ("back", B))
        self.assertEqual((river.standing(), river.late()), ({A: 1}, []))
        river = river_of(("letter", A), ("mark", "rain", 5))
        self.assertIs(river.take(("back", A)), True)

    def test_late_letters(self):
        river = river_of(("mark", "rain", 6), ("end", "wind"))
        for letter in (B, A, C, B):
            self.assertIs(river.take(("letter", letter)), False)
        self.assertEqual(river.late(), [B, A, C, B])
        self.assertEqual(river.standing(), {})
        self.assertEqual(river.happened(), [("mark", "rain", 6), ("end", "wind")] + [("letter", x) for x in (B, A, C, B)])

    def test_what_is_no_happening(self):
        for river in (River(SOURCES), river_of(("letter", A), ("mark", "rain", 6), ("end", "wind"))):
            for thing in NO_HAPPENINGS + ANYTHING:
                self.refused_unchanged(NoLetter, river, thing)

    def test_no_name_of_a_source(self):
        river = River(SOURCES)
        for name in ["hail", "x", "", None, 0, True, ["rain"], ("rain",), SOURCES, Everything(), {}, b"rain"]:
            self.refused(NoSource, river.mark, name)

    def test_twins_are_apart(self):
        river = river_of(("letter", A), ("letter", A), ("mark", "rain", 3), ("letter", ("rain", 1, (1,))), ("end", "wind"))
        twin = river.twin()
        self.assertIsInstance(twin, River)
        before = told_of(river)
        self.assertEqual(told_of(twin), before)
        for happening in [("letter", B), ("back", A), ("letter", C), ("mark", "rain", 5), ("end", "rain")]:
            twin.take(happening)
        self.assertEqual(told_of(river), before)
        after = told_of(twin)
        river.take(("letter", ("rain", 7, (0,))))
        self.assertEqual(told_of(twin), after)

    def test_what_is_told_is_the_askers_own(self):
        river = river_of(("letter", A), ("mark", "rain", 6), ("letter", B))
        before = copy.deepcopy(told_of(river))
        river.standing()[B] = 3
        river.late().append(C)
        river.happened().pop()
        self.assertEqual(told_of(river), before)

    def test_many_made_ones(self):
        for number in range(200):
            maker = Maker(number)
            river, slow = River(maker.sources), SlowRiver()
            happenings = maker.happenings(river, 30, 6)
            for at, happening in enumerate(happenings):
                self.assertIs(river.take(happening), slow.take(happening))
                self.assertEqual(list(river.standing().items()),
                                 [(letter, slow.letters.count(letter)) for letter in sorted(set(slow.letters))])
                self.assertEqual(river.late(), slow.late)
                self.assertEqual(river.happened(), happenings[:at + 1])
                for name, columns in maker.sources:
                    self.assertEqual(river.mark(name), slow.marks.get(name, 0))
                    for moment in range(8):
                        letter = (name, moment, (0,) * len(columns))
                        self.assertIs(river.is_open(letter), slow.is_open(letter))
