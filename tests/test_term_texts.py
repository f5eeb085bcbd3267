"""lateriver/terms.py: the texts of reckonings and conditions, and what is read of texts."""

import itertools
import re

from lateriver.errors import NoText
from lateriver.terms import is_condition, is_reckoning, read_condition, read_reckoning, term_text
from tests.refusals import ANYTHING, RefusalCase, deep_tuple
from tests.test_sources import KEPT
from tests.test_terms import A, B, CONDITIONS, NO, RECKONINGS, YES, one_within_another

ONE = ("number", 1)

RECKONING_TEXTS = [
    (A, "a"), (("column", "abcdef"), "abcdef"), (("column", "begin"), "begin"),
    (("column", "behind"), "behind"), (("column", "many"), "many"),
    (("column", "leasts"), "leasts"), (("column", "mostly"), "mostly"), (("column", "nota"), "nota"),
    (("column", "yess"), "yess"), (("column", "notyes"), "notyes"), (("column", "andor"), "andor"),
    (("column", "is"), "is"), (("column", "below"), "below"), (("column", "less"), "less"),
    (("column", "all"), "all"), (("column", "any"), "any"), (("column", "column"), "column"),
    (("column", "number"), "number"),
    (("number", 0), "0"), (("number", 5), "5"), (("number", 10), "10"), (("number", -3), "-3"),
    (("number", -20), "-20"), (("number", 100200), "100200"),
    (("sum", A, B), "(a + b)"), (("less", A, B), "(a - b)"), (("less", B, A), "(b - a)"),
    (("least", A, B), "least(a, b)"), (("most", A, B), "most(a, b)"), (("least", B, A), "least(b, a)"),
    (("sum", A, ("number", -3)), "(a + -3)"), (("less", A, ("number", -3)), "(a - -3)"),
    (("less", A, ("number", 3)), "(a - 3)"), (("less", ("number", -3), A), "(-3 - a)"),
    (("least", ("number", -1), ("number", 2)), "least(-1, 2)"),
    (("sum", ("less", A, B), ("most", A, ("sum", B, ONE))), "((a - b) + most(a, (b + 1)))"),
    (("least", ("least", A, B), ("least", B, A)), "least(least(a, b), least(b, a))"),
    (("less", ("less", A, B), ("less", B, A)), "((a - b) - (b - a))"),
]

CONDITION_TEXTS = [
    (YES, "yes"), (NO, "not yes"), (("not", NO), "not not yes"),
    (("is", A, B), "(a = b)"), (("below", A, B), "(a < b)"), (("below", B, A), "(b < a)"),
    (("all", YES, NO), "(yes and not yes)"), (("any", NO, YES), "(not yes or yes)"),
    (("not", ("is", A, ("number", -3))), "not (a = -3)"),
    (("not", ("all", YES, YES)), "not (yes and yes)"),
    (("all", ("not", YES), YES), "(not yes and yes)"),
    (("is", ("sum", A, B), ("least", A, ONE)), "((a + b) = least(a, 1))"),
    (("all", ("is", A, B), ("any", ("below", A, ONE), YES)), "((a = b) and ((a < 1) or yes))"),
    (("any", ("all", YES, YES), ("all", NO, NO)), "((yes and yes) or (not yes and not yes))"),
    (("below", ("column", "begin"), ("less", ("column", "behind"), ("column", "many"))), "(begin < (behind - many))"),
]

ALL_TEXTS = [text for _, text in RECKONING_TEXTS + CONDITION_TEXTS]

NO_TEXTS = [
    "", " ", "(", ")", "()", "(a)", "((a + b))", "(yes)", "a b", "a + b", "a - b", "a = b", "yes and yes", "yes or yes",
    "(a+b)", "(a +b)", "(a+ b)", "(a  + b)", "(a +  b)", "( a + b)", "(a + b )", "(a + b", "a + b)", "(a + b))",
    "(a + )", "( + b)", "(a b)", "(a + b + c)", "(a + b - c)", "(a * b)", "(a // b)", "(a > b)", "(a <= b)",
    "(a == b)", "(a != b)", "(a & b)", "[a + b]", "(a + b) ", " (a + b)", "(a + b)\n", "\na", "a\n", "a ", " a",
    "(a\n+ b)", "(a\t+ b)", "(a + b), a", "(a, b)", "a,", "a.", "a;",
    "least", "most", "least(", "least()", "least(a)", "least(a, )", "least(, b)", "least(a,b)", "least(a , b)",
    "least( a, b)", "least(a, b )", "least(a,  b)", "least (a, b)", "least(a, b, c)", "least(a, b", "least(a b)",
    "leasta, b)", "Least(a, b)", "leasts(a, b)", "min(a, b)", "(least(a, b))", "most(a; b)", "sum(a, b)", "a(a, b)",
    "least(yes, a)", "least(a, yes)", "most((a = b), a)", "least(a, not yes)", "yes(a, b)", "not(a, b)",
    "(yes + a)", "(a + yes)", "(yes - yes)", "(yes = yes)", "(a = yes)", "(yes < a)", "(a < (a = b))", "((a < b) + a)",
    "(a and yes)", "(yes and a)", "(a or b)", "(yes or a)", "(a or yes)", "((a + b) and yes)", "(yes andyes)",
    "(yesand yes)", "(yes AND yes)", "(yes  and yes)", "(yes and  yes)", "(yes not yes)", "(yes yes)", "(yes, yes)",
    "not", "not ", "not a", "not 1", "not  yes", "notyes yes", "not\nyes", "not(yes)", "not (yes)", "not not",
    "Not yes",
    "not (a + b)", "not least(a, b)", "yes ", " yes", "Yes", "yes yes", "yes no", "yes)", "(yes",
    "-", "--3", "- 3", "-a", "+3", "+", "3-", "1 2", "1a", "a1", "1.0", "1e3", "1_0", "0x1", "1,000", "(3)", "-(3)",
    "-0", "00", "01", "-01", "007", "-00", "0 ", "-3 ", "(a + 01)", "(a - -0)",
    "\u0663", "\uff11", "1\u0663", "\u00b2", "\u00e9", "a\u0301", "\u00a0a", "(a\u00a0+ b)", "\ufeffa", "(a \u2212 b)",
    "A", "aB", "a_", "_a", "a-b", "abcdefg", "begins1", "behinds", "'a'", "column a", "(column, a)", "('column', 'a')",
]


def kind_by_rewriting(text):
    """What a text is of, told otherwise than by the reader: inner terms are rewritten to one sign each."""
    def leaf(found):
        word = found.group()
        if word in ("and", "or", "least", "most", "not"):
            return word
        if word == "yes":
            return "C"
        if re.fullmatch(r"-?[0-9]+", word):
            return "R" if re.fullmatch(r"0|-?[1-9][0-9]{0,11}", word) else "?"
        return "R" if word in ("begin", "behind", "many") or word not in KEPT and len(word) < 7 else "?"

    if re.search(r"[^ -~]|[A-Z?]", text):
        return None
    # A sign and its number, or letters: what touches one another otherwise is no text.
    if re.search(r"[0-9][a-z]|[a-z][0-9]|[a-z]-|[0-9]-", text):
        return None
    text = re.sub(r"-?[0-9]+|[a-z]+", leaf, text)
    ahead = None
    while ahead != text:
        ahead = text
        text = re.sub(r"\(R [-+] R\)|(least|most)\(R, R\)", "R", text)
        text = re.sub(r"\(R [=<] R\)|\(C (and|or) C\)|not C", "C", text)
    return text if text in ("R", "C") else None


class WrittenTest(RefusalCase):
    def test_reckonings(self):
        for term, text in RECKONING_TEXTS:
            self.assertEqual(term_text(term), text)

    def test_conditions(self):
        for term, text in CONDITION_TEXTS:
            self.assertEqual(term_text(term), text)

    def test_numbers(self):
        for number in list(range(-30, 31)) + [10 ** 12, -10 ** 20]:
            self.assertEqual(term_text(("number", number)), str(number))
            self.assertEqual(term_text(("is", A, ("number", number))), f"(a = {number})")

    def test_unlike_terms_have_unlike_texts(self):
        terms = [term for term, _ in RECKONING_TEXTS + CONDITION_TEXTS]
        self.assertEqual(len({term_text(term) for term in terms}), len(terms))

    def test_terms_deep_within_one_another(self):
        deep = 3000
        self.assertEqual(term_text(one_within_another(YES, "not", None, deep)), "not " * deep + "yes")
        term, condition = A, YES
        for _ in range(deep):
            term, condition = ("sum", term, B), ("all", YES, condition)
        self.assertEqual(term_text(term), "(" * deep + "a" + " + b)" * deep)
        self.assertEqual(term_text(condition), "(yes and " * deep + "yes" + ")" * deep)


class ReadTest(RefusalCase):
    def test_reckonings(self):
        for term, text in RECKONING_TEXTS:
            self.assertEqual(read_reckoning(text), term)
            self.refused(NoText, read_condition, text)

    def test_conditions(self):
        for term, text in CONDITION_TEXTS:
            self.assertEqual(read_condition(text), term)
            self.refused(NoText, read_reckoning, text)

    def test_what_is_read_is_what_was_written(self):
        for term, _ in RECKONINGS[:8] + RECKONINGS[9:]:
            self.assertEqual(read_reckoning(term_text(term)), term)
        for term, _ in CONDITIONS:
            self.assertEqual(read_condition(term_text(term)), term)

    def test_what_is_read_is_a_term_of_tuples(self):
        for term, text in RECKONING_TEXTS:
            self.assertTrue(is_reckoning(read_reckoning(text), re.findall("[a-z]+", text)))
        for term, text in CONDITION_TEXTS:
            self.assertTrue(is_condition(read_condition(text), re.findall("[a-z]+", text)))

    def test_every_pair_of_terms_in_every_word(self):
        reckonings = [A, ("column", "many"), ("number", -3), ("sum", A, B), ("least", B, A)]
        conditions = [YES, ("is", A, ONE), ("below", ONE, A), ("not", ("any", YES, NO)), ("all", NO, YES)]
        for one, other in itertools.product(reckonings, repeat=2):
            for word in ("sum", "less", "least", "most"):
                self.assertEqual(read_reckoning(term_text((word, one, other))), (word, one, other))
            for word in ("is", "below"):
                self.assertEqual(read_condition(term_text((word, one, other))), (word, one, other))
        for one, other in itertools.product(conditions, repeat=2):
            for word in ("all", "any"):
                self.assertEqual(read_condition(term_text((word, one, other))), (word, one, other))

    def test_texts_of_nothing(self):
        for text in NO_TEXTS:
            with self.subTest(text):
                self.refused(NoText, read_reckoning, text)
                self.refused(NoText, read_condition, text)

    def test_things_that_are_no_texts(self):
        for thing in [thing for thing in ANYTHING if thing not in ("a", "yes")] + [b"yes", A, YES, deep_tuple("a")]:
            self.refused(NoText, read_reckoning, thing)
            self.refused(NoText, read_condition, thing)


class NumbersTest(RefusalCase):
    def test_small_numbers(self):
        for number in range(-200, 201):
            self.assertEqual(read_reckoning(str(number)), ("number", number))

    def test_numbers_of_12_figures_and_of_13(self):
        for figures in ("123456789012", "999999999999", "100000000000"):
            self.assertEqual(read_reckoning(figures), ("number", int(figures)))
            self.assertEqual(read_reckoning("-" + figures), ("number", -int(figures)))
            self.assertEqual(read_condition(f"(a = -{figures})"), ("is", A, ("number", -int(figures))))
            for text in (figures + "0", "-" + figures + "0", "0" + figures, f"(a + {figures}1)"):
                self.refused(NoText, read_reckoning, text)
            self.refused(NoText, read_condition, f"(a = {figures}1)")

    def test_a_great_many_figures(self):
        for figures in ("1" * 100, "1" * 6000, "0" * 12, "0" * 6000):
            self.refused(NoText, read_reckoning, figures)
            self.refused(NoText, read_reckoning, "-" + figures)
            self.refused(NoText, read_condition, f"({figures} = a)")


class NamesTest(RefusalCase):
    def test_kept_words_are_no_columns_but_three(self):
        for word in KEPT:
            if word in ("begin", "behind", "many"):
                self.assertEqual(read_reckoning(word), ("column", word))
                self.assertEqual(read_condition(f"({word} = a)"), ("is", ("column", word), A))
            else:
                self.refused(NoText, read_reckoning, word)
                self.refused(NoText, read_reckoning, f"({word} + a)")
                self.refused(NoText, read_reckoning, f"least(a, {word})")
                self.refused(NoText, read_condition, f"({word} = a)")
                self.refused(NoText, read_condition, f"(a < {word})")

    def test_names_that_begin_with_a_kept_word(self):
        for word in KEPT:
            for name in (word + "x", "x" + word):
                if len(name) <= 6:
                    self.assertEqual(read_reckoning(name), ("column", name))
                    self.assertEqual(read_condition(f"({name} < {name})"), ("below",) + (("column", name),) * 2)
                else:
                    self.refused(NoText, read_reckoning, name)

    def test_lengths(self):
        for many in range(1, 30):
            if many <= 6:
                self.assertEqual(read_reckoning("x" * many), ("column", "x" * many))
            else:
                self.refused(NoText, read_reckoning, "x" * many)


class WithinTest(RefusalCase):
    """At most 40 terms within one another; the innermost one is one of them."""

    def test_reckonings(self):
        for word, left, right in (
            ("sum", "(", " + b)"), ("less", "(", " - b)"), ("least", "least(", ", b)"), ("most", "most(", ", b)"),
        ):
            for deep in (1, 2, 39, 40, 41, 42, 100):
                text = left * (deep - 1) + "a" + right * (deep - 1)
                term = A
                for _ in range(deep - 1):
                    term = (word, term, B)
                self.read_to_40(read_reckoning, deep, text, term)

    def test_reckonings_on_the_right(self):
        for word, left, right in (("sum", "(b + ", ")"), ("least", "least(b, ", ")"), ("less", "(b - ", ")")):
            for deep in (1, 39, 40, 41, 1000):
                text = left * (deep - 1) + "-3" + right * (deep - 1)
                term = ("number", -3)
                for _ in range(deep - 1):
                    term = (word, B, term)
                self.read_to_40(read_reckoning, deep, text, term)

    def test_conditions(self):
        for word, left, right in (
            ("not", "not ", ""), ("all", "(", " and yes)"), ("any", "(", " or yes)"),
        ):
            for deep in (1, 2, 39, 40, 41, 42, 1000):
                text = left * (deep - 1) + "yes" + right * (deep - 1)
                term = YES
                for _ in range(deep - 1):
                    term = (word, term, YES)[:2 if word == "not" else 3]
                self.read_to_40(read_condition, deep, text, term)

    def test_reckonings_in_conditions_count_too(self):
        for word, sign in (("is", " = "), ("below", " < ")):
            for deep in (2, 39, 40, 41):
                term = (word, A, B)
                for _ in range(deep - 2):
                    term = ("not", term)
                self.read_to_40(read_condition, deep, "not " * (deep - 2) + f"(a{sign}b)", term)
                inner = A
                for _ in range(deep - 2):
                    inner = ("sum", B, inner)
                text = "(a" + sign + "(b + " * (deep - 2) + "a" + ")" * (deep - 1)
                self.read_to_40(read_condition, deep, text, (word, A, inner))

    def test_many_terms_beside_one_another(self):
        term, text = A, "a"
        for _ in range(9):
            term, text = ("sum", term, term), f"({text} + {text})"
        self.assertEqual(read_reckoning(text), term)
        self.assertEqual(term_text(term), text)

    def test_openings_a_thousand_times(self):
        openings = ["(", "not ", "least(", "(a + ", "most(a, ", "(yes and ", "(not ", "-", " ", "a", ")", "1", ", "]
        for opening in openings:
            for behind in ("", "a", "yes", "1", ")", "(a = b)"):
                self.refused(NoText, read_reckoning, opening * 1000 + behind)
                self.refused(NoText, read_condition, opening * 1000 + behind)
        for text in ("(" * 1000 + ")" * 1000, "(" * 1000 + "a" + ")" * 1000, "not " * 1000 + "yes",
                     "(" * 1000 + "a" + " + a)" * 1000, "(a + " * 1000 + "a" + ")" * 1000,
                     "least(" * 1000 + "a" + ", a)" * 1000):
            self.refused(NoText, read_reckoning, text)
            self.refused(NoText, read_condition, text)

    def read_to_40(self, read, deep, text, term):
        self.assertEqual(term_text(term), text)
        if deep <= 40:
            self.assertEqual(read(text), term)
        else:
            self.refused(NoText, read, text)


class EditedTest(RefusalCase):
    """Texts with a sign more, less, or another one, anywhere, are read just where they are written so."""

    def test_the_other_way_of_telling_kinds(self):
        for _, text in RECKONING_TEXTS:
            self.assertEqual(kind_by_rewriting(text), "R")
        for _, text in CONDITION_TEXTS:
            self.assertEqual(kind_by_rewriting(text), "C")
        for text in NO_TEXTS:
            self.assertIsNone(kind_by_rewriting(text), text)

    def test_a_sign_less(self):
        for text in ALL_TEXTS:
            for at in range(len(text)):
                self.read_as_rewritten(text[:at] + text[at + 1:])

    def test_two_signs_change_places(self):
        for text in ALL_TEXTS:
            for at in range(len(text) - 1):
                self.read_as_rewritten(text[:at] + text[at + 1] + text[at] + text[at + 2:])

    def test_a_sign_more(self):
        for text in ALL_TEXTS:
            for at in range(len(text) + 1):
                for sign in " ()-+=<,0a3zA\n.":
                    self.read_as_rewritten(text[:at] + sign + text[at:])

    def test_another_sign(self):
        for text in ALL_TEXTS:
            for at in range(len(text)):
                for sign in " ()-+=<,0a":
                    self.read_as_rewritten(text[:at] + sign + text[at + 1:])

    def read_as_rewritten(self, text):
        kind = kind_by_rewriting(text)
        for read, due in ((read_reckoning, "R"), (read_condition, "C")):
            if kind == due:
                self.assertEqual(term_text(read(text)), text)
            else:
                self.refused(NoText, read, text)
