"""lateriver/terms.py, but the texts: what reckonings and conditions are, and what they give."""

import copy
import itertools

from lateriver.errors import NoTerm
from lateriver.terms import is_condition, is_reckoning, meets, reckoned
from tests.refusals import ANYTHING, Everything, RefusalCase, deep_tuple

COLUMNS = ["a", "b", "begin", "behind", "many"]
ROW = (2, 5, 10, 20, 3)
A = ("column", "a")
B = ("column", "b")
YES = ("yes",)
NO = ("not", YES)
DEEP = 3000

RECKONINGS = [
    (A, 2), (B, 5), (("column", "begin"), 10), (("column", "behind"), 20), (("column", "many"), 3),
    (("number", 0), 0), (("number", 7), 7), (("number", -7), -7), (("number", 10 ** 30), 10 ** 30),
    (("sum", A, B), 7), (("sum", B, ("number", -9)), -4),
    (("less", A, B), -3), (("less", B, A), 3), (("less", A, ("number", -1)), 3),
    (("least", A, B), 2), (("least", B, A), 2), (("least", A, A), 2), (("least", ("number", -1), A), -1),
    (("most", A, B), 5), (("most", B, A), 5), (("most", ("number", -1), ("number", -2)), -1),
    (("less", ("sum", A, A), ("less", B, ("number", 1))), 0),
    (("less", ("less", A, B), ("least", A, ("most", B, ("column", "many")))), -5),
]

CONDITIONS = [
    (YES, True), (NO, False), (("not", NO), True),
    (("is", A, B), False), (("is", A, ("number", 2)), True), (("is", ("number", 2), A), True),
    (("below", A, B), True), (("below", B, A), False), (("below", A, A), False),
    (("all", YES, YES), True), (("all", YES, NO), False), (("all", NO, YES), False), (("all", NO, NO), False),
    (("any", YES, YES), True), (("any", YES, NO), True), (("any", NO, YES), True), (("any", NO, NO), False),
    (("not", ("is", A, B)), True), (("not", ("below", A, B)), False),
    (("is", ("sum", A, ("column", "many")), B), True),
    (("all", ("below", A, B), ("not", ("any", ("is", A, B), NO))), True),
    (("below", ("less", A, B), ("least", A, B)), True),
]

# Each is neither a reckoning nor a condition on the columns.
NEITHER = [
    ("column",), ("column", "a", "b"), ("column", "c"), ("column", "ab"), ("column", ""), ("column", None),
    ("column", 0), ("column", True), ("column", ["a"]), ("column", ("a",)), ("column", A), ("column", b"a"),
    ("number",), ("number", 1, 2), ("number", True), ("number", False), ("number", None), ("number", "1"),
    ("number", ("number", 1)), ("number", [1]), ("number", "a"),
    ("sum",), ("sum", A), ("sum", A, B, A), ("less", A), ("less", A, B, B), ("least",), ("least", A),
    ("least", A, B, A), ("most", A), ("most", A, B, A),
    ("yes", YES), ("yes", A), ("yes", True), ("is", A), ("is", A, B, A), ("is",), ("below", A),
    ("below", A, B, A), ("all",), ("all", YES), ("all", YES, YES, YES), ("any", YES), ("any", YES, YES, YES),
    ("not",), ("not", YES, YES),
    ("no",), ("and", YES, YES), ("or", YES, YES), ("times", A, B), ("minus", A), ("+", A, B), ("=", A, B),
    ("true",), ("Sum", A, B), ("sum ", A, B), ("", A, B), ("a",), ("above", A, B),
    ["column", "a"], ["number", 1], ["sum", A, B], ["yes"], ["not", YES], ["is", A, B],
    ("sum", ["column", "a"], B), ("sum", A, ["column", "b"]), ("not", ["yes"]), ("all", YES, ["yes"]),
    ("sum", 2, 3), ("sum", "a", "b"), ("is", 1, 1), ("all", True, True), ("not", True), ("not", "yes"),
    (None, A, B), (1, A, B), (("sum",), A, B), (["sum"], A, B), ({}, A, B), (b"sum", A, B), (True,), (A, B),
    ("sum", YES, B), ("sum", A, YES), ("less", YES, B), ("less", A, YES), ("least", YES, B), ("least", A, YES),
    ("most", YES, B), ("most", A, YES), ("is", YES, B), ("is", A, YES), ("is", YES, YES), ("below", YES, B),
    ("below", A, YES), ("below", YES, YES), ("all", A, YES), ("all", YES, A), ("all", A, B), ("any", A, YES),
    ("any", YES, A), ("any", A, B), ("not", A), ("sum", ("not", YES), A), ("any", YES, ("sum", A, B)),
    "a", "yes", "column", ("column", ("column", "a")),
    Everything(), (Everything(),), (Everything(), A, B), ("column", Everything()), ("number", Everything()),
]


def one_within_another(core, word, other, depth=DEEP):
    """The core within so many terms of a word; other stands beside, on the one side and the other by turns."""
    for at in range(depth):
        if word == "not":
            core = ("not", core)
        elif at % 2:
            core = (word, core, other)
        else:
            core = (word, other, core)
    return core


class IsTermTest(RefusalCase):
    def test_reckonings(self):
        for term, _ in RECKONINGS:
            self.assertIs(is_reckoning(term, COLUMNS), True)
            self.assertIs(is_condition(term, COLUMNS), False)

    def test_conditions(self):
        for term, _ in CONDITIONS:
            self.assertIs(is_condition(term, COLUMNS), True)
            self.assertIs(is_reckoning(term, COLUMNS), False)

    def test_what_is_neither(self):
        for at, thing in enumerate(NEITHER + ANYTHING):
            with self.subTest(at):
                self.assertIs(is_reckoning(thing, COLUMNS), False)
                self.assertIs(is_condition(thing, COLUMNS), False)

    def test_what_is_neither_within_others(self):
        for thing in NEITHER + ANYTHING:
            for word in ("sum", "less", "least", "most"):
                self.assertIs(is_reckoning((word, thing, A), COLUMNS), False)
                self.assertIs(is_reckoning((word, A, thing), COLUMNS), False)
                self.assertIs(is_reckoning(("sum", A, (word, A, ("less", thing, A))), COLUMNS), False)
            for word in ("is", "below"):
                self.assertIs(is_condition((word, thing, A), COLUMNS), False)
                self.assertIs(is_condition((word, A, thing), COLUMNS), False)
                self.assertIs(is_condition(("not", (word, A, ("sum", thing, A))), COLUMNS), False)
            for word in ("all", "any"):
                self.assertIs(is_condition((word, thing, YES), COLUMNS), False)
                self.assertIs(is_condition((word, YES, thing), COLUMNS), False)
            self.assertIs(is_condition(("not", thing), COLUMNS), False)

    def test_columns_that_may_be_asked(self):
        for name in ("begin", "behind", "many", "a", "abcdef"):
            term = ("column", name)
            self.assertIs(is_reckoning(term, [name]), True)
            self.assertIs(is_reckoning(term, ["b", name]), True)
            self.assertIs(is_reckoning(term, ["b", "c"]), False)
            self.assertIs(is_reckoning(term, []), False)
            self.assertIs(is_condition(("is", term, term), [name]), True)
            self.assertIs(is_condition(("is", term, term), ["b", "c"]), False)
            self.assertIs(is_condition(term, [name]), False)

    def test_no_column_may_be_asked(self):
        self.assertIs(is_reckoning(("sum", ("number", 1), ("number", 2)), []), True)
        self.assertIs(is_condition(YES, []), True)
        self.assertIs(is_condition(("is", ("number", 1), A), []), False)

    def test_what_was_handed_in_is_as_it_was(self):
        columns = list(COLUMNS)
        thing = ["sum", ["column", "a"], {"b": [1]}]
        before = copy.deepcopy(thing)
        for term in [thing, ("sum", A, thing), ("not", thing), A, YES]:
            is_reckoning(term, columns)
            is_condition(term, columns)
        reckoned(("sum", A, B), columns, ROW)
        meets(("is", A, B), columns, ROW)
        self.assertEqual(columns, COLUMNS)
        self.assertEqual(thing, before)


class ReckonedTest(RefusalCase):
    def test_reckonings(self):
        for term, number in RECKONINGS:
            told = reckoned(term, COLUMNS, ROW)
            self.assertEqual(told, number)
            self.assertIs(type(told), int)

    def test_each_word_of_all_small_numbers(self):
        for one, other in itertools.product(range(-3, 4), repeat=2):
            columns, row = ["x", "y"], (one, other)
            x, y = ("column", "x"), ("column", "y")
            self.assertEqual(reckoned(("sum", x, y), columns, row), one + other)
            self.assertEqual(reckoned(("less", x, y), columns, row), one - other)
            self.assertEqual(reckoned(("least", x, y), columns, row), min(one, other))
            self.assertEqual(reckoned(("most", x, y), columns, row), max(one, other))
            self.assertIs(meets(("is", x, y), columns, row), one == other)
            self.assertIs(meets(("below", x, y), columns, row), one < other)

    def test_columns_are_named_in_order(self):
        for names in itertools.permutations("abc"):
            for at in range(3):
                self.assertEqual(reckoned(("column", names[at]), list(names), (7, 8, 9)), 7 + at)

    def test_the_order_of_parts_deep_inside(self):
        term = ("less", ("less", A, ("less", B, A)), ("less", ("number", 100), ("less", A, B)))
        self.assertEqual(reckoned(term, COLUMNS, ROW), (2 - (5 - 2)) - (100 - (2 - 5)))

    def test_what_is_no_reckoning_is_refused(self):
        for thing in NEITHER + ANYTHING + [term for term, _ in CONDITIONS]:
            self.refused(NoTerm, reckoned, thing, COLUMNS, ROW)
            self.refused(NoTerm, reckoned, ("sum", A, thing), COLUMNS, ROW)
            self.refused(NoTerm, reckoned, ("most", ("less", thing, A), B), COLUMNS, ROW)

    def test_a_column_that_is_not_among_them_is_refused(self):
        for name in ("begin", "behind", "many", "c"):
            self.refused(NoTerm, reckoned, ("column", name), ["a", "b"], (1, 2))
            self.refused(NoTerm, meets, ("is", A, ("column", name)), ["a", "b"], (1, 2))


class MeetsTest(RefusalCase):
    def test_conditions(self):
        for term, truth in CONDITIONS:
            self.assertIs(meets(term, COLUMNS, ROW), truth)

    def test_what_is_no_condition_is_refused(self):
        for thing in NEITHER + ANYTHING + [term for term, _ in RECKONINGS]:
            self.refused(NoTerm, meets, thing, COLUMNS, ROW)
            self.refused(NoTerm, meets, ("not", thing), COLUMNS, ROW)

    def test_a_fault_is_refused_where_the_truth_is_told_already(self):
        for thing in NEITHER + ANYTHING + [A]:
            self.refused(NoTerm, meets, ("any", YES, thing), COLUMNS, ROW)
            self.refused(NoTerm, meets, ("any", thing, YES), COLUMNS, ROW)
            self.refused(NoTerm, meets, ("all", NO, thing), COLUMNS, ROW)
            self.refused(NoTerm, meets, ("all", thing, NO), COLUMNS, ROW)

    def test_a_fault_in_a_reckoning_is_refused(self):
        for thing in NEITHER + ANYTHING + [YES]:
            self.refused(NoTerm, meets, ("is", thing, A), COLUMNS, ROW)
            self.refused(NoTerm, meets, ("any", YES, ("below", A, ("sum", A, thing))), COLUMNS, ROW)

    def test_a_row_of_no_columns(self):
        self.assertIs(meets(("is", ("number", 1), ("number", 1)), [], ()), True)
        self.assertEqual(reckoned(("number", -4), [], ()), -4)


class DeepTest(RefusalCase):
    """Three thousand terms and more within one another."""

    def test_a_fault_deep_inside_a_reckoning(self):
        for fault in (None, YES, ("column", "c"), ("number", True), ["number", 1], ("sum", A), deep_tuple(1)):
            for word in ("sum", "less", "least", "most"):
                term = one_within_another(fault, word, A)
                self.assertIs(is_reckoning(term, COLUMNS), False)
                self.assertIs(is_condition(term, COLUMNS), False)
                self.assertIs(is_condition(("is", term, A), COLUMNS), False)
                self.refused(NoTerm, reckoned, term, COLUMNS, ROW)
                self.refused(NoTerm, meets, ("any", YES, ("below", A, term)), COLUMNS, ROW)

    def test_a_fault_deep_inside_a_condition(self):
        for fault in (None, A, ("is", A, ("column", "c")), ("yes", 1), ["yes"], ("all", YES), deep_tuple("yes")):
            for word in ("all", "any", "not"):
                term = one_within_another(fault, word, YES)
                self.assertIs(is_condition(term, COLUMNS), False)
                self.assertIs(is_reckoning(term, COLUMNS), False)
                self.refused(NoTerm, meets, term, COLUMNS, ROW)
                self.refused(NoTerm, reckoned, term, COLUMNS, ROW)

    def test_deep_tuples_in_a_words_or_a_names_place(self):
        deep = deep_tuple("a")
        for thing in (deep, (deep,), ("column", deep), ("number", deep), (deep, A, B), ("sum", deep, deep)):
            self.assertIs(is_reckoning(thing, COLUMNS), False)
            self.assertIs(is_condition(thing, COLUMNS), False)
            self.refused(NoTerm, reckoned, thing, COLUMNS, ROW)
            self.refused(NoTerm, meets, thing, COLUMNS, ROW)

    def test_a_deep_term_of_the_other_kind(self):
        reckoning = one_within_another(A, "sum", B)
        condition = one_within_another(YES, "all", YES)
        self.refused(NoTerm, meets, reckoning, COLUMNS, ROW)
        self.refused(NoTerm, reckoned, condition, COLUMNS, ROW)

    def test_deep_terms_are_terms(self):
        for word in ("sum", "less", "least", "most"):
            self.assertIs(is_reckoning(one_within_another(A, word, B), COLUMNS), True)
        for word in ("all", "any", "not"):
            self.assertIs(is_condition(one_within_another(YES, word, NO), COLUMNS), True)

    def test_deep_terms_give_what_they_give(self):
        self.assertEqual(reckoned(one_within_another(A, "sum", B), COLUMNS, ROW), 2 + 5 * DEEP)
        self.assertIs(meets(one_within_another(YES, "not", None), COLUMNS, ROW), True)
        self.assertIs(meets(one_within_another(YES, "not", None, DEEP + 1), COLUMNS, ROW), False)
        self.assertIs(meets(one_within_another(NO, "all", YES), COLUMNS, ROW), False)
        self.assertIs(meets(one_within_another(YES, "any", NO), COLUMNS, ROW), True)

    def test_terms_of_many_parts_on_both_sides(self):
        term, condition = A, YES
        for _ in range(12):
            term, condition = ("sum", term, term), ("all", condition, condition)
        self.assertEqual(reckoned(term, COLUMNS, ROW), 2 * 2 ** 12)
        self.assertIs(meets(condition, COLUMNS, ROW), True)
