"""lateriver/sources.py: point 11, and of point 4 what a name is."""

import copy
import itertools

from lateriver.errors import NoSource
from lateriver.sources import are_sources, fields_of, is_letter, names_of, rows_of
from tests.refusals import ANYTHING, Everything, RefusalCase, deep_tuple

KEPT = (
    "source keep shape both join alone fold letter back mark end many begin behind of on by with "
    "from to pane slide visit sum least most yes not and or"
).split()

ONE = (("a", (("x", 0),)),)
TWO = (("rain", (("place", 5), ("depth", 2))), ("wind", (("place", 5), ("force", 0), ("turn", 1))))
THREE = (
    ("sensor", (("x", 1),)), ("b", (("x", 1), ("y", 5))), ("c", (("z", 0), ("y", 3), ("x", 2))),
)
GOOD = [ONE, TWO, THREE]


def with_name(name):
    return ((name, (("x", 1),)),)


def with_columns(columns):
    return (("a", columns),)


def with_top(top):
    return with_columns((("x", top),))


BAD_NAMES = [
    "", "abcdefg", "A", "aB", "a1", "1", "a_", "a b", " a", "a ", "a\n", "\u00e9", "\u00df", "\u0430", "a-b",
    None, 1, True, b"a", ["a"], ("a",), {"a": 1}, deep_tuple("a"), Everything(),
]

BAD = [
    (),
    THREE + (("d", (("x", 1),)),),
    (("a", (("x", 1),)), ("a", (("x", 1),))),
    (("a", (("x", 1),)), ("b", (("x", 1),)), ("a", (("y", 2),))),
    with_columns(()),
    with_columns((("w", 1), ("x", 1), ("y", 1), ("z", 1))),
    with_columns((("x", 1), ("x", 1))),
    with_columns((("x", 1), ("y", 1), ("x", 2))),
    with_columns([("x", 1)]),
    with_columns((["x", 1],)),
    with_columns((("x",),)),
    with_columns((("x", 1, 1),)),
    with_columns(("x", 1)),
    with_columns((1, 2)),
    with_columns("x"),
    with_columns(None),
    with_columns({("x", 1): 1}),
    with_top(-1), with_top(6), with_top(100), with_top(True), with_top(False),
    with_top(None), with_top("1"), with_top((1,)), with_top([1]),
    [("a", (("x", 1),))],
    (["a", (("x", 1),)],),
    (("a",),),
    (("a", (("x", 1),), 1),),
    ("a", (("x", 1),)),
    ((("x", 1),),),
    {"a": (("x", 1),)},
    "abc",
    ONE + ("b",),
    ONE + ((),),
    ONE + (None,),
    deep_tuple(ONE),
]


class AreSourcesTest(RefusalCase):
    def test_sources(self):
        for sources in GOOD:
            self.assertIs(are_sources(sources), True)

    def test_one_to_three_sources_of_one_to_three_columns(self):
        for many in (1, 2, 3):
            for wide in (1, 2, 3):
                columns = tuple(zip("xyz"[:wide], (0, 5, 3)))
                self.assertIs(are_sources(tuple((name, columns) for name in "abc"[:many])), True)

    def test_tops(self):
        for top in range(-10, 20):
            self.assertIs(are_sources(with_top(top)), 0 <= top <= 5)

    def test_names(self):
        for name in ["a", "z", "m", "abcdef", "zzzzzz", "abc"]:
            self.assertIs(are_sources(with_name(name)), True)
            self.assertIs(are_sources(with_columns(((name, 1),))), True)

    def test_names_that_are_none(self):
        for name in BAD_NAMES:
            self.assertIs(are_sources(with_name(name)), False)
            self.assertIs(are_sources(with_columns(((name, 1),))), False)
            self.assertIs(are_sources(with_columns((("x", 1), (name, 1)))), False)

    def test_kept_words_are_no_names(self):
        self.assertEqual(len(KEPT), 30)
        for word in KEPT:
            with self.subTest(word):
                self.assertIs(are_sources(with_name(word)), False)
                self.assertIs(are_sources(with_columns(((word, 1),))), False)
                self.assertIs(are_sources(ONE + ((word, (("x", 1),)),)), False)

    def test_names_that_begin_or_end_with_a_kept_word(self):
        for word in KEPT:
            for name in (word + "x", "x" + word, word + "s"):
                self.assertIs(are_sources(with_name(name)), len(name) <= 6)
                self.assertIs(are_sources(with_columns(((name, 1),))), len(name) <= 6)

    def test_other_words_are_names(self):
        words = "is below all any column number less seen ask at told why final lack fall kept plain parted late none"
        for word in words.split():
            self.assertIs(are_sources(with_name(word)), True)

    def test_a_column_may_be_called_as_a_source(self):
        self.assertIs(are_sources((("a", (("a", 1),)), ("b", (("a", 1),)))), True)

    def test_what_are_none(self):
        for at, thing in enumerate(BAD + ANYTHING):
            with self.subTest(at):
                self.assertIs(are_sources(thing), False)


class NamesAndFieldsTest(RefusalCase):
    def test_names_in_order(self):
        self.assertEqual(names_of(ONE), ["a"])
        self.assertEqual(names_of(TWO), ["rain", "wind"])
        self.assertEqual(names_of(THREE), ["sensor", "b", "c"])

    def test_fields_in_order(self):
        self.assertEqual(fields_of(ONE, "a"), ["x"])
        self.assertEqual(fields_of(TWO, "rain"), ["place", "depth"])
        self.assertEqual(fields_of(TWO, "wind"), ["place", "force", "turn"])
        self.assertEqual(fields_of(THREE, "c"), ["z", "y", "x"])

    def test_what_are_no_sources_is_refused(self):
        for thing in BAD + ANYTHING:
            self.refused(NoSource, names_of, thing)
            self.refused(NoSource, fields_of, thing, "a")
            self.refused(NoSource, rows_of, thing, "a")
            self.refused(NoSource, is_letter, thing, ("a", 0, (0,)))
            self.refused(NoSource, is_letter, thing, None)
            self.refused(NoSource, fields_of, thing, None)
            self.refused(NoSource, rows_of, thing, [])

    def test_what_is_no_name_of_a_source_is_refused(self):
        things = [thing for thing in ANYTHING if thing != "a"]
        for thing in things + BAD_NAMES + KEPT + ["x", "b", "rain", ("a", (("x", 0),)), ONE]:
            self.refused(NoSource, fields_of, ONE, thing)
            self.refused(NoSource, rows_of, ONE, thing)

    def test_a_column_is_no_name_of_a_source(self):
        self.refused(NoSource, fields_of, TWO, "place")
        self.refused(NoSource, rows_of, TWO, "place")


class RowsTest(RefusalCase):
    def test_rows_of_one_column(self):
        self.assertEqual(rows_of(ONE, "a"), [(0,)])
        self.assertEqual(rows_of(with_top(5), "a"), [(0,), (1,), (2,), (3,), (4,), (5,)])

    def test_rows_rise(self):
        self.assertEqual(rows_of(THREE, "b")[:8], [
            (0, 0), (0, 1), (0, 2), (0, 3), (0, 4), (0, 5), (1, 0), (1, 1),
        ])

    def test_all_rows_each_once(self):
        for sources in GOOD:
            for name, columns in sources:
                rows = list(itertools.product(*[range(top + 1) for _, top in columns]))
                self.assertEqual(rows_of(sources, name), rows)
                self.assertIs(type(rows_of(sources, name)), list)

    def test_the_most_rows(self):
        rows = rows_of(with_columns((("x", 5), ("y", 5), ("z", 5))), "a")
        self.assertEqual(len(rows), 216)
        self.assertEqual(len(set(rows)), 216)
        self.assertEqual(rows, sorted(rows))
        self.assertEqual(rows[-1], (5, 5, 5))


class NewListsTest(RefusalCase):
    def test_lists_that_are_told_are_the_askers_own(self):
        asks = [
            lambda: names_of(TWO), lambda: fields_of(TWO, "wind"), lambda: rows_of(TWO, "rain"),
            lambda: rows_of(TWO, "wind"),
        ]
        for ask in asks:
            before = ask()
            told = ask()
            self.assertIsNot(told, before)
            told.reverse()
            told.append("more")
            del told[0]
            self.assertEqual(ask(), before)

    def test_what_was_handed_in_is_as_it_was(self):
        for sources in GOOD:
            before = copy.deepcopy(sources)
            names_of(sources).clear()
            for name, _ in sources:
                fields_of(sources, name).clear()
                rows_of(sources, name).clear()
                is_letter(sources, (name, 3, (0, 0)))
            self.assertEqual(sources, before)

    def test_things_that_are_none_are_as_they_were(self):
        thing = [["a", [["x", 1]]]]
        before = copy.deepcopy(thing)
        are_sources(thing)
        is_letter(ONE, thing)
        self.refused(NoSource, names_of, thing)
        self.refused(NoSource, fields_of, ONE, thing)
        self.assertEqual(thing, before)


class IsLetterTest(RefusalCase):
    def test_letters(self):
        for sources in GOOD:
            for name, _ in sources:
                for row in rows_of(sources, name):
                    for moment in (0, 1, 7, 200):
                        self.assertIs(is_letter(sources, (name, moment, row)), True)

    def test_a_moment_is_any_number_from_0_on(self):
        for moment in (0, 200, 201, 999999, 10 ** 30):
            self.assertIs(is_letter(ONE, ("a", moment, (0,))), True)

    def test_moments_that_are_none(self):
        for moment in (-1, -200, True, False, None, "1", "", (1,), [1], {}, Everything()):
            self.assertIs(is_letter(ONE, ("a", moment, (0,))), False)

    def test_names_of_no_source(self):
        for name in ["b", "x", "rain", "source"] + BAD_NAMES:
            self.assertIs(is_letter(ONE, (name, 0, (0,))), False)

    def test_a_row_of_another_source(self):
        self.assertIs(is_letter(THREE, ("b", 0, (0, 4))), True)
        self.assertIs(is_letter(THREE, ("c", 0, (0, 4))), False)
        self.assertIs(is_letter(THREE, ("c", 0, (0, 3, 2))), True)
        self.assertIs(is_letter(THREE, ("b", 0, (0, 3, 2))), False)
        self.assertIs(is_letter(TWO, ("wind", 0, (5, 0, 1))), True)
        self.assertIs(is_letter(TWO, ("sensor", 0, (1,))), False)

    def test_numbers_beyond_their_columns(self):
        for row in [(6, 0), (0, 3), (-1, 0), (0, -1), (100, 0), (5, 3)]:
            self.assertIs(is_letter(TWO, ("rain", 0, row)), False)
        self.assertIs(is_letter(TWO, ("rain", 0, (5, 2))), True)
        self.assertIs(is_letter(ONE, ("a", 0, (1,))), False)

    def test_things_in_a_numbers_place(self):
        for thing in (True, False, None, "0", "", (0,), [0], {}, Everything()):
            self.assertIs(is_letter(TWO, ("rain", 0, (thing, 0))), False)
            self.assertIs(is_letter(TWO, ("rain", 0, (0, thing))), False)

    def test_numbers_too_few_or_too_many(self):
        for row in [(), (0,), (0, 0, 0), (0, 0, 0, 0)]:
            self.assertIs(is_letter(TWO, ("rain", 0, row)), False)

    def test_things_in_a_rows_place(self):
        for row in ([0, 0], "00", None, 0, {0: 0, 1: 0}, range(2)):
            self.assertIs(is_letter(TWO, ("rain", 0, row)), False)

    def test_a_part_more_or_less_and_lists(self):
        for thing in [
            ["a", 0, (0,)], ("a", 0), ("a",), (0, (0,)), ("a", (0,)), ("a", 0, (0,), 0), ("a", 0, 0),
            ("letter", ("a", 0, (0,))), (("a", 0, (0,)),), ("a", (0,), 0), (0, "a", (0,)), "a00",
            {"a": 0}, deep_tuple(("a", 0, (0,))), ("a", 0, deep_tuple(0)), ("a", deep_tuple(0), (0,)),
        ]:
            self.assertIs(is_letter(ONE, thing), False)

    def test_anything(self):
        for thing in ANYTHING:
            self.assertIs(is_letter(ONE, thing), False)
            self.assertIs(is_letter(THREE, thing), False)
