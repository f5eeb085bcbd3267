"""lateriver/papers.py: points 111, 112 and 113, and of point 2 (d) and (j)."""

import copy
import itertools

from lateriver.errors import NoText
from lateriver.papers import much_of, paper_text, papers_of, read_paper, shows
from lateriver.plain import answer_of
from lateriver.questions import Question
from tests.asking import Maker, parts_of
from tests.refusals import ANYTHING, Everything, RefusalCase, deep_tuple
from tests.test_plain import NO_LETTERS, RAIN, SNOW, SOURCES, WIND, X, Y, fold, rain, wind

A = ("rain", 5, (1, 2))
B = ("rain", 5, (1, 4))
C = ("rain", 6, (0, 2))
W = ("wind", 6, (1,))
V = ("wind", 4, (1,))
LETTERS = {A: 2, B: 1, C: 3, W: 4, V: 1, ("snow", 5, (1, 2)): 5}
PA, PB, PC, PW, PV = [("letter", one) for one in (A, B, C, W, V)]

TEXTS = [
    (PA, "letter(rain 5 1 2)"), (PW, "letter(wind 6 1)"), (("kept", PA), "kept(letter(rain 5 1 2))"),
    (("shaped", ("kept", PW)), "shaped(kept(letter(wind 6 1)))"), (("one", PA), "one(letter(rain 5 1 2))"),
    (("other", PA), "other(letter(rain 5 1 2))"), (("single", PW), "single(letter(wind 6 1))"),
    (("joined", PA, PW), "joined(letter(rain 5 1 2), letter(wind 6 1))"),
    (("folded", 5, (PA,)), "folded(5: letter(rain 5 1 2))"),
    (("folded", 0, (PA, PB, ("one", PC))), "folded(0: letter(rain 5 1 2), letter(rain 5 1 4), one(letter(rain 6 0 2)))"),
    (("joined", ("folded", 999999, (PA, PA)), ("single", PW)),
     "joined(folded(999999: letter(rain 5 1 2), letter(rain 5 1 2)), single(letter(wind 6 1)))"),
    (("letter", ("z", 0, (0,))), "letter(z 0 0)"), (("letter", ("abcdef", 123456, (0, 10, 999999, 7))),
                                                    "letter(abcdef 123456 0 10 999999 7)"),
    (("kept", ("kept", ("kept", ("kept", ("kept", PW))))), "kept(" * 5 + "letter(wind 6 1)" + ")" * 5),
]
NO_TEXTS = [
    "", " ", "letter", "letter(", "letter()", "letter(rain)", "letter(rain 5)", "letter(rain 5 )", "letter( rain 5 1)",
    "letter(rain  5 1)", "letter(rain 5 1) ", " letter(rain 5 1)", "letter (rain 5 1)", "letter(rain 5 1", "letter(rain 5 1))",
    "letter(rain 05 1)", "letter(rain 5 01)", "letter(rain 5 -1)", "letter(rain -5 1)", "letter(rain +5 1)", "letter(rain 5 1.0)",
    "letter(rain 1000000 1)", "letter(rain 5 1000000)", "letter(rain 5 1 )", "letter(rain 5,1)", "letter(rain 5 1, 2)",
    "letter(Rain 5 1)", "letter(rains 5 x)", "letter(abcdefg 5 1)", "letter(5 5 1)", "letter( 5 1)", "letter(keep 5 1)",
    "letter(mark 5 1)", "letter(rain 5 1)letter(rain 5 1)", "letter(rain 5 1), letter(rain 5 1)", "Letter(rain 5 1)",
    "kept", "kept()", "kept(rain 5 1)", "kept(letter(rain 5 1)", "kept(letter(rain 5 1), letter(rain 5 1))", "kept[letter(rain 5 1)]",
    "kepts(letter(rain 5 1))", "keep(letter(rain 5 1))", "kept(letter(rain 5 1) )", "kept( letter(rain 5 1))",
    "joined(letter(rain 5 1))", "joined(letter(rain 5 1),letter(rain 5 1))", "joined(letter(rain 5 1),  letter(rain 5 1))",
    "joined(letter(rain 5 1) , letter(rain 5 1))", "joined(letter(rain 5 1), )", "joined(letter(rain 5 1), letter(rain 5 1), )",
    "joined(letter(rain 5 1), letter(rain 5 1), letter(rain 5 1))", "single()", "one(letter(rain 5 1), letter(rain 5 1))",
    "folded()", "folded(5)", "folded(5: )", "folded(5:)", "folded(: letter(rain 5 1))", "folded(5:letter(rain 5 1))",
    "folded(5 : letter(rain 5 1))", "folded(05: letter(rain 5 1))", "folded(-5: letter(rain 5 1))", "folded(letter(rain 5 1))",
    "folded(1000000: letter(rain 5 1))", "folded(5: letter(rain 5 1), )", "folded(5: letter(rain 5 1),letter(rain 5 1))",
    "folded(x: letter(rain 5 1))", "letter(rain 5 1)\n", "letter(rain\t5 1)", "(letter(rain 5 1))", "kept(" * 6 + "letter(rain 5 1)" + ")" * 6,
    "kept(" * 3000, "kept(" * 3000 + "letter(rain 5 1)" + ")" * 3000,
    "folded(5: " * 6 + "letter(rain 5 1)" + ")" * 6, "(" * 3000, "letter(rain " + "9" * 5000 + " 1)", "letter(r\u00e4in 5 1)",
    "letter(rain \u0665 1)", "letter(rain \u00b2 1)",
]


def question(tree):
    return Question(SOURCES, tree)


class PaperCase(RefusalCase):
    def shown(self, tree, paper, pair, much, letters=None):
        letters = dict(LETTERS) if letters is None else letters
        before = dict(letters)
        self.assertEqual(shows(question(tree), letters, paper), pair)
        self.assertEqual(much_of(letters, paper), much)
        self.assertIn(paper, papers_of(question(tree), letters, *pair))
        self.assertEqual(letters, before)

    def shows_nothing(self, tree, *papers, letters=None):
        for paper in papers:
            self.assertIsNone(shows(question(tree), LETTERS if letters is None else letters, paper), paper)


class ShowsTest(PaperCase):
    def test_letters(self):
        self.shown(RAIN, PA, (5, (1, 2)), 2)
        self.shown(WIND, PW, (6, (1,)), 4)
        self.shows_nothing(RAIN, PW, ("letter", ("rain", 5, (2, 2))), ("letter", ("rain", 7, (1, 2))), ("letter", A, A),
                           ("letter", ("snow", 5, (1, 2))), ("letter",), ["letter", A], ("kept", PA), ("Letter", A), A)
        for one in NO_LETTERS + ANYTHING + [Everything(), deep_tuple(A)]:
            self.shows_nothing(RAIN, ("letter", one))

    def test_numbers_that_are_truths(self):
        letters = {("rain", 1, (1, 1)): 1}
        self.shown(RAIN, ("letter", ("rain", 1, (1, 1))), (1, (1, 1)), 1, letters)
        for one in [("rain", True, (1, 1)), ("rain", 1, (True, 1)), ("rain", 1, (1, True))]:
            self.shows_nothing(RAIN, ("letter", one), letters=letters)
        tree = ("fold", RAIN, (), ("pane", 1), ())
        self.shown(tree, ("folded", 1, (("letter", ("rain", 1, (1, 1))),)), (1, (1, 2, 1)), 1, letters)
        self.shows_nothing(tree, ("folded", True, (("letter", ("rain", 1, (1, 1))),)), letters=letters)

    def test_kept(self):
        tree = ("keep", RAIN, ("below", Y, ("number", 3)))
        self.shown(tree, ("kept", PA), (5, (1, 2)), 2)
        self.shows_nothing(tree, ("kept", PB), PA, ("kept", PA, PA), ("kept",), ("kept", ("kept", PA)), ("shaped", PA), ["kept", PA])

    def test_shaped(self):
        tree = ("shape", RAIN, (("a", ("sum", X, Y)), ("b", ("number", -3))))
        self.shown(tree, ("shaped", PA), (5, (3, -3)), 2)
        self.shown(tree, ("shaped", PC), (6, (2, -3)), 3)
        self.shows_nothing(tree, PA, ("shaped", PW), ("kept", PA))

    def test_one_and_other(self):
        tree = ("both", RAIN, SNOW)
        self.shown(tree, ("one", PA), (5, (1, 2)), 2)
        self.shown(tree, ("other", ("letter", ("snow", 5, (1, 2)))), (5, (1, 2)), 5)
        self.shows_nothing(tree, ("other", PA), ("one", ("letter", ("snow", 5, (1, 2)))), ("both", PA), PA, ("one", PA, PA))
        self.shown(("both", RAIN, RAIN), ("other", PA), (5, (1, 2)), 2)
        self.assertEqual(papers_of(question(tree), LETTERS, 5, (1, 2)), [("one", PA), ("other", ("letter", ("snow", 5, (1, 2))))])

    def test_joined(self):
        tree = ("join", RAIN, WIND, (("x", "z"),), -1, 1)
        self.shown(tree, ("joined", PA, PW), (6, (1, 2, 1)), 8)
        self.shown(tree, ("joined", PA, PV), (5, (1, 2, 1)), 2)
        self.shows_nothing(tree, ("joined", PW, PA), ("joined", PC, PW), ("joined", PA), ("joined", PA, PW, PW), ("joined", PA, PA))
        self.shows_nothing(("join", RAIN, WIND, (), 1, 1), ("joined", PA, PV))
        self.shows_nothing(("join", RAIN, WIND, (), -1, 0), ("joined", PA, PW))

    def test_single(self):
        tree = ("alone", RAIN, WIND, (("x", "z"),), 0, 1)
        self.shows_nothing(tree, ("single", PA), PC, ("single", PW), ("single",), ("single", PC, PC))
        self.shown(tree, ("single", PC), (6, (0, 2)), 3)
        self.shown(tree, ("single", PA), (5, (1, 2)), 2, {A: 2, V: 1, ("wind", 6, (0,)): 1, ("wind", 7, (1,)): 3})

    def test_folded(self):
        tree = ("fold", RAIN, ("x",), ("pane", 5), (("a", "sum", "y"), ("b", "least", "y")))
        self.shown(tree, ("folded", 5, (PA, PB)), (9, (1, 5, 10, 3, 8, 2)), 1)
        self.shown(tree, ("folded", 5, (PC,)), (9, (0, 5, 10, 3, 6, 2)), 1)
        self.shows_nothing(
            tree, ("folded", 5, (PA,)), ("folded", 5, (PB,)), ("folded", 5, (PB, PA)), ("folded", 5, (PA, PA, PB)),
            ("folded", 5, (PA, PB, PC)), ("folded", 5, (PA, PB, PW)), ("folded", 5, (PA, PC)), ("folded", 5, ()),
            ("folded", 5, [PA, PB]), ("folded", 0, (PA, PB)), ("folded", 10, (PA, PB)), ("folded", "5", (PA, PB)),
            ("folded", 5, PA), ("folded", 5), ("folded", 5, (PA, PB), 1), ("folded", -5, (PA, PB)), ("folded", None, (PA, PB)),
            ("folded", 5, (PA, None)), ("folded", 5, (deep_tuple(PA), PB)), ("folded", (PA, PB), 5), PA,
        )

    def test_one_paper_twice_for_two(self):
        tree, letters = ("fold", RAIN, (), ("pane", 5), ()), {A: 1, B: 1}
        self.shown(tree, ("folded", 5, (PA, PB)), (9, (5, 10, 2)), 1, letters)
        self.shows_nothing(tree, ("folded", 5, (PA, PA)), ("folded", 5, (PB, PB)), ("folded", 5, (PB, PA)), letters=letters)

    def test_folded_slides(self):
        tree = ("fold", RAIN, (), ("slide", 4, 2), ())
        self.shown(tree, ("folded", 4, (PA, PB, PC)), (7, (4, 8, 6)), 1)
        self.shown(tree, ("folded", 2, (PA, PB)), (5, (2, 6, 3)), 1)
        self.shown(tree, ("folded", 6, (PC,)), (9, (6, 10, 3)), 1)
        self.shows_nothing(tree, ("folded", 4, (PA, PB)), ("folded", 5, (PA, PB, PC)), ("folded", 2, (PA, PB, PC)), ("folded", 0, (PA,)))

    def test_folded_visits(self):
        letters = {**LETTERS, ("rain", 9, (1, 0)): 1}
        last = ("letter", ("rain", 9, (1, 0)))
        tree = ("fold", RAIN, (), ("visit", 2), ())
        self.shown(tree, ("folded", 5, (PA, PB, PC)), (6, (5, 7, 6)), 1, letters)
        self.shown(tree, ("folded", 9, (last,)), (9, (9, 10, 1)), 1, letters)
        self.shows_nothing(tree, ("folded", 6, (PC,)), ("folded", 5, (PA, PB, PC, last)), ("folded", 5, (PA, PB)), letters=letters)
        self.shown(("fold", RAIN, (), ("visit", 3), ()), ("folded", 5, (PA, PB, PC, last)), (9, (5, 10, 7)), 1, letters)

    def test_copies_that_are_papers_of_many_kinds(self):
        tree = ("fold", ("both", RAIN, RAIN), (), ("pane", 1), ())
        papers = tuple((word, paper) for word in ("one", "other") for paper in (PA, PB))
        self.shown(tree, ("folded", 5, papers), (5, (5, 6, 6)), 1)
        self.shows_nothing(tree, ("folded", 5, papers[:3]), ("folded", 5, papers[1:]), ("folded", 5, papers[2:] + papers[:2]))

    def test_terms_above_folds_and_alones(self):
        tree = ("keep", ("fold", RAIN, (), ("pane", 5), ()), ("is", ("column", "many"), ("number", 6)))
        self.shown(tree, ("kept", ("folded", 5, (PA, PB, PC))), (9, (5, 10, 6)), 1)
        tree = ("shape", ("both", ("alone", RAIN, WIND, (("x", "z"),), 0, 1), RAIN), (("a", X),))
        self.shown(tree, ("shaped", ("one", ("single", PC))), (6, (0,)), 3)
        self.shown(tree, ("shaped", ("other", PC)), (6, (0,)), 3)

    def test_what_is_no_paper(self):
        trees = [RAIN, ("keep", RAIN, ("yes",)), ("shape", RAIN, (("a", X),)), ("both", RAIN, RAIN), fold(("pane", 5)),
                 ("join", RAIN, WIND, (), -9, 9), ("alone", RAIN, WIND, (), 0, 0)]
        words = ["letter", "kept", "shaped", "one", "other", "joined", "single", "folded", Everything(), None, ["kept"]]
        for tree in trees:
            self.shows_nothing(tree, *ANYTHING, Everything(), deep_tuple(PA), deep_tuple("kept"))
            for word, thing in itertools.product(words, ANYTHING + [Everything(), deep_tuple(PA)]):
                self.shows_nothing(tree, (word, thing), (word, thing, thing), (word, PW, thing), (word, 5, (thing,)), (word, 5, (PA, thing)))


class ManyMadeTest(PaperCase):
    def test_papers_sum_up_to_what_is_told(self):
        for number in range(350):
            maker = Maker(number)
            asked = Question(maker.sources, maker.tree())
            letters = maker.letters(9, 6)
            before = dict(letters)
            for (moment, row), count in answer_of(asked, letters).items():
                papers = papers_of(asked, letters, moment, row)
                texts = [paper_text(paper) for paper in papers]
                self.assertEqual(texts, sorted(set(texts)))
                self.assertEqual(sum(much_of(letters, paper) for paper in papers), count)
                for paper in papers:
                    self.assertEqual(shows(asked, letters, paper), (moment, row))
                    self.assertEqual(read_paper(paper_text(paper)), paper)
            self.assertEqual(papers_of(asked, letters, 3, (9,) * len(asked.columns())), [])
            self.assertEqual(letters, before)

    def test_nothing_beyond_is_shown(self):
        looked_at = 0
        for number in range(150):
            maker = Maker(number)
            asked = Question(maker.sources, maker.tree())
            letters = maker.letters(5, 3)
            shown = {}
            for paper in every_paper(asked.tree(), letters) or []:
                pair = shows(asked, letters, paper)
                if pair is not None:
                    shown[pair] = shown.get(pair, 0) + much_of(letters, paper)
                    looked_at += 1
            if every_paper(asked.tree(), letters) is not None:
                self.assertEqual(shown, answer_of(asked, letters))
        self.assertGreater(looked_at, 100)


def every_paper(tree, letters, most=700):
    """All papers that have the words of a tree, most of them showing nothing; None where they are too many."""
    if tree[0] == "source":
        return [("letter", one) for one in letters]
    within = [every_paper(part, letters, most) for part in parts_of(tree)]
    if None in within:
        return None
    words = {"keep": ["kept"], "shape": ["shaped"], "alone": ["single"], "both": ["one", "other"]}
    if tree[0] in words:
        found = [(word, paper) for word, papers in zip(words[tree[0]], within) for paper in papers]
    elif tree[0] == "join":
        found = [("joined", *pair) for pair in itertools.product(*within)]
    else:
        papers = sorted(within[0], key=paper_text)
        if len(papers) > 6:
            return None
        found = [
            ("folded", begin, some) for begin in range(5) for many in range(len(papers) + 1)
            for some in itertools.combinations(papers, many)
        ]
    return found if len(found) <= most else None


class TextTest(RefusalCase):
    def test_written_and_read(self):
        for paper, text in TEXTS:
            self.assertEqual(paper_text(paper), text)
            self.assertEqual(read_paper(text), paper)

    def test_numbers_that_are_read_are_no_truths(self):
        paper = read_paper("folded(1: letter(rain 1 0))")
        self.assertIs(type(paper[1]), int)
        self.assertIs(type(paper[2][0][1][1]), int)
        self.assertIs(type(paper[2]), tuple)
        self.assertIs(type(paper[2][0][1][2]), tuple)

    def test_six_within_one_another_and_one_more(self):
        for words in [["kept"] * 5, ["folded"] * 5, ["joined"] * 5, ["single", "one", "other", "shaped", "kept"]]:
            heads = {"folded": "folded(5: ", "joined": "joined(letter(b 1 1), "}
            text = "".join(heads.get(word, word + "(") for word in words) + "letter(a 1 0)" + ")" * 5
            self.assertEqual(paper_text(read_paper(text)), text)
            for word in ("kept", "folded", "joined"):
                self.refused(NoText, read_paper, heads.get(word, word + "(") + text + ")")

    def test_no_texts(self):
        for text in NO_TEXTS + ANYTHING + [b"letter(rain 5 1)", ["letter(rain 5 1)"], PA, Everything()]:
            self.refused(NoText, read_paper, text)

    def test_one_sign_otherwise(self):
        for paper, text in TEXTS[:10]:
            for at in range(len(text)):
                for sign in ["", " ", "(", ")", ",", ":", "0", "5", "k", "A", "-"]:
                    other = text[:at] + sign + text[at + 1:]
                    try:
                        read = read_paper(other)
                    except NoText:
                        continue
                    self.assertEqual(paper_text(read), other)
                    self.assertEqual(read == paper, other == text)

    def test_papers_of_however_many_within_one_another(self):
        paper = PA
        for number in range(6000):
            paper = [("kept", paper), ("folded", 5, (paper,)), ("joined", PW, paper)][number % 3]
        text = paper_text(paper)
        self.assertTrue(text.startswith("joined(letter(wind 6 1), folded(5: kept(joined("))
        self.assertEqual(text.count("("), 6000 + 2000 + 1)

    def test_what_is_told_is_the_askers_own(self):
        told = papers_of(question(RAIN), LETTERS, 5, (1, 2))
        before = copy.deepcopy(told)
        told.append(1)
        self.assertEqual(papers_of(question(RAIN), LETTERS, 5, (1, 2)), before)

    def test_rows_of_other_widths(self):
        for tree in (RAIN, fold(("pane", 5)), ("join", RAIN, WIND, (), -9, 9), ("both", RAIN, RAIN)):
            for row in [(), (1,), (1, 2, 1, 1, 1)]:
                self.assertEqual(papers_of(question(tree), {**rain((5, 1, 2, 1)), **wind((5, 1, 1))}, 5, row), [])
