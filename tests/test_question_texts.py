"""lateriver/questions.py: the texts of point 32."""

from lateriver.errors import NoQuestion, NoSource, NoText
from lateriver.questions import Question, question_text, read_question
from tests.asking import Maker
from tests.refusals import ANYTHING, Everything, RefusalCase, deep_tuple
from tests.test_questions import (
    ALONE, GOOD, JOINED, KEPT, LOW_X, PANES, RAIN, SHAPED, SLIDES, SNOW, SOURCES, VISITS, WIND, X, YES, both_of, kept,
)
from tests.test_sources import BAD as NO_SOURCES

TEXTS = [
    (RAIN, "rain"), (WIND, "wind"),
    (KEPT, "keep (x < 1) of rain"), (("keep", KEPT, YES), "keep yes of (keep (x < 1) of rain)"),
    (SHAPED, "shape a x, b (x + y) of rain"), (("shape", WIND, (("z", ("number", -3)),)), "shape z -3 of wind"),
    (("shape", KEPT, (("x", ("least", X, X)),)), "shape x least(x, x) of (keep (x < 1) of rain)"),
    (("both", RAIN, SNOW), "both rain and snow"), (("both", KEPT, SNOW), "both (keep (x < 1) of rain) and snow"),
    (("both", SNOW, KEPT), "both snow and (keep (x < 1) of rain)"),
    (JOINED, "join rain and wind on x z from -1 to 2"), (("join", WIND, RAIN, (), 0, 0), "join wind and rain from 0 to 0"),
    (("join", KEPT, WIND, (), -10, -3), "join (keep (x < 1) of rain) and wind from -10 to -3"),
    (ALONE, "alone rain and snow on x y, y x from -10 to 10"),
    (("alone", WIND, ("both", RAIN, SNOW), (), 3, 12), "alone wind and (both rain and snow) from 3 to 12"),
    (PANES, "fold rain by x pane 5 with total sum y, low least x"), (SLIDES, "fold rain slide 4 2"),
    (VISITS, "fold rain by y, x visit 20 with high most x"), (("fold", KEPT, (), ("pane", 1), ()),
                                                              "fold (keep (x < 1) of rain) pane 1"),
    (("fold", WIND, (), ("slide", 20, 20), (("a", "sum", "z"),)), "fold wind slide 20 20 with a sum z"),
    (("keep", PANES, ("below", ("column", "many"), ("column", "begin"))),
     "keep (many < begin) of (fold rain by x pane 5 with total sum y, low least x)"),
    (("shape", ALONE, (("a", X), ("b", X))), "shape a x, b x of (alone rain and snow on x y, y x from -10 to 10)"),
]

NO_TEXTS = [
    "", " ", "hail", "rain ", " rain", "rain\n", "Rain", "(rain)", "rain wind", "source rain", "x", "1", "keep",
    "keep yes of hail", "keep yes of (rain)", "keep yes of ((keep yes of rain))", "keep yes of keep yes of rain",
    "keep  yes of rain", "keep yes  of rain", "keep yes of  rain", "keep (x<1) of rain", "keep x of rain",
    "keep (z < 1) of rain", "keep (x < 01) of rain", "keep (x < -0) of rain", "keep of rain", "keep yes rain",
    "keep yes of rain and wind", "(keep yes of rain)", "keep yes of (keep yes of rain", "keep yes of keep yes of rain)",
    "shape of rain", "shape a x,b y of rain", "shape a x b y of rain", "shape a x, of rain", "shape a x, a y of rain",
    "shape a  x of rain", "shape x of rain", "shape begin x of rain", "shape a yes of rain", "shape a z of rain",
    "shape abcdefg x of rain", "shape a (x + y of rain", "shape , a x of rain", "shape a x,  b y of rain",
    "both rain", "both rain and", "both rain, snow", "both rain and wind", "both rain snow", "both (rain) and snow",
    "both rain and (snow)", "both rain and snow and rain", "both and rain",
    "join rain and wind", "join rain and wind from 0", "join rain and wind to 0", "join rain and wind from 0 to",
    "join rain and wind from 1 to 0", "join rain and wind from 0 to 0 on x z", "join rain and wind on from 0 to 0",
    "join rain and wind on x from 0 to 0", "join rain and wind on x z, from 0 to 0", "join rain and wind on z x from 0 to 0",
    "join rain and wind on x z,x z from 0 to 0", "join rain and wind on x z x z from 0 to 0",
    "join rain and wind from +1 to 2", "join rain and wind from 00 to 2", "join rain and wind from -0 to 2",
    "join rain and wind from  0 to 2", "join rain and snow from 0 to 0", "join rain and rain from 0 to 0",
    "join rain and wind from 0 to 0 ", "join rain and wind from a to b", "join rain wind from 0 to 0",
    "alone rain and wind", "alone rain and wind from 2 to 1", "alone rain and (fold rain pane 1) from 0 to 0",
    "alone rain and wind on from 0 to 0", "alone rain and wind on x x from 0 to 0",
    "fold rain", "fold rain pane", "fold rain pane 0", "fold rain pane -1", "fold rain pane 05", "fold rain pane 5 5",
    "fold rain slide 4", "fold rain slide 4 2 1", "fold rain slide 4  2", "fold rain slide 0 2", "fold rain slide 2 0",
    "fold rain visit", "fold rain visit 0", "fold rain visit 1 1", "fold rain hour 5", "fold rain by pane 5",
    "fold rain by z pane 5", "fold rain by x, x pane 5", "fold rain by x,y pane 5", "fold rain by x y pane 5",
    "fold rain by x, pane 5", "fold rain  pane 5", "fold rain pane 5 with", "fold rain pane 5 with a sum",
    "fold rain pane 5 with a sum z", "fold rain pane 5 with a most", "fold rain pane 5 with sum y",
    "fold rain pane 5 with a sum y,", "fold rain pane 5 with a sum y, a sum y", "fold rain pane 5 with a sum y b sum y",
    "fold rain pane 5 with many sum y", "fold rain pane 5 by x", "fold rain pane 5 with a times y",
    "fold rain by x pane 5 with x sum y", "fold (rain) pane 5", "fold (fold rain pane 5) pane 5",
    "fold rain pane 5 with a sum y ", "fold rain pane 1234567890123", "letter rain", "end rain",
]


class QuestionTextTest(RefusalCase):
    def test_texts(self):
        for tree, text in TEXTS:
            self.assertEqual(question_text(tree), text)

    def test_what_is_read(self):
        for tree, text in TEXTS:
            question = read_question(SOURCES, text)
            self.assertIsInstance(question, Question)
            self.assertEqual(question.tree(), tree)
            self.assertEqual(question.sources(), SOURCES)

    def test_each_question_is_read_as_what_it_was_written_of(self):
        for tree, columns, flat in GOOD:
            if "1" + "0" * 20 in str(tree):
                continue
            question = read_question(SOURCES, question_text(tree))
            self.assertEqual(question.tree(), tree)
            self.assertEqual((question.columns(), question.is_flat()), (columns, flat))

    def test_many_made_ones(self):
        for number in range(400):
            maker = Maker(number)
            tree = maker.tree()
            self.assertEqual(read_question(maker.sources, question_text(tree)).tree(), tree)

    def test_what_is_no_text_of_a_question(self):
        for text in NO_TEXTS + [text for text in ANYTHING if text != "rain"]:
            self.refused(NoText, read_question, SOURCES, text)
        for text in [Everything(), b"rain", ["rain"], ("rain",), RAIN, KEPT, deep_tuple("rain"), "(" * 5000]:
            self.refused(NoText, read_question, SOURCES, text)

    def test_texts_with_one_sign_otherwise(self):
        for _, text in TEXTS:
            for at in range(len(text) + 1):
                others = [text[:at] + sign + text[at:] for sign in " (),-01axk"]
                if at < len(text):
                    others.append(text[:at] + text[at + 1:])
                    others += [text[:at] + sign + text[at + 1:] for sign in " (),-01axyz+<=\n%"]
                for other in others:
                    self.read_just_so_or_refused(other)

    def read_just_so_or_refused(self, text):
        try:
            question = read_question(SOURCES, text)
        except NoText:
            return
        self.assertEqual(question_text(question.tree()), text)

    def test_what_is_the_text_of_a_question_of_other_sources(self):
        for sources in (SOURCES[1:], SOURCES[:1] + (("wind", (("a", 1),)),)):
            for text in ("both rain and snow", "join rain and wind on x z from 0 to 0"):
                self.refused(NoText, read_question, sources, text)

    def test_no_sources_are_told_first(self):
        for sources in NO_SOURCES + ANYTHING + [Everything()]:
            self.refused(NoSource, read_question, sources, "rain")
            self.refused(NoSource, read_question, sources, "")
            self.refused(NoSource, read_question, sources, None)

    def test_terms_within_one_another_and_in_all(self):
        for tree in (kept(RAIN, 5), both_of(5), ("keep", both_of(5), YES)):
            self.assertEqual(read_question(SOURCES, question_text(tree)).tree(), tree)
        for tree in (kept(RAIN, 6), kept(RAIN, 900), both_of(6), ("both", RAIN, kept(RAIN, 5))):
            self.refused(NoQuestion, Question, SOURCES, tree)
            self.refused(NoText, read_question, SOURCES, question_text(tree))

    def test_texts_with_terms_thousands_within_one_another(self):
        for begun in ("keep yes of (", "shape x x of (", "both (", "both rain and (", "join (", "join rain and (",
                      "alone (", "alone rain and (", "fold (", "("):
            for text in (begun * 4000, begun * 4000 + "rain", begun * 4000 + "keep yes of rain" + ")" * 4000):
                self.refused(NoText, read_question, SOURCES, text)

    def test_conditions_within_one_another(self):
        condition = LOW_X
        for _ in range(37):
            condition = ("not", condition)
        tree = ("keep", RAIN, condition)
        self.assertEqual(read_question(SOURCES, question_text(tree)).tree(), tree)

    def test_texts_of_trees_of_any_depth(self):
        text = question_text(kept(RAIN, 4000))
        self.assertEqual(text, "keep yes of (" * 3999 + "keep yes of rain" + ")" * 3999)
        tree = RAIN
        for _ in range(1500):
            tree = ("both", tree, SNOW)
        self.assertTrue(question_text(tree).endswith(" and snow) and snow"))

    def test_unlike_questions_have_unlike_texts(self):
        trees = [tree for tree, _, _ in GOOD] + [tree for tree, _ in TEXTS]
        texts = {}
        for tree in trees:
            self.assertEqual(texts.setdefault(question_text(tree), tree), tree)
