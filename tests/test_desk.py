"""lateriver/desk.py: points 161 and 162."""

import unittest

from lateriver.desk import answered
from lateriver.finals import settled
from lateriver.forms import plain_form
from lateriver.keeping import kept_of
from lateriver.lacks import falling, lacking
from lateriver.mills import Mill
from lateriver.papers import paper_text, papers_of
from lateriver.parting import keys_of, parted_by
from lateriver.questions import Question, question_text, read_question
from lateriver.rivers import River
from tests.asking import Maker

NO_ROW = "no row"
SOURCES = ["source rain place 2 depth 5", "source wind place 2"]
ASKS = [
    "ask q fold (keep (0 < depth) of rain) by place pane 10 with total sum depth",
    "ask f join rain and (shape at place of wind) on place at from 0 to 1",
]
START = SOURCES + ASKS
OTHER_SORT = "ask g keep (1 < many) of (fold rain pane 5)"
VISITS = "ask v fold rain by place visit 3"
ALONE = "ask a alone rain and wind on place place from 0 to 5"


class DeskCase(unittest.TestCase):
    def told(self, rows, *expected):
        """The answers to the last ones of these rows are those expected."""
        answers = answered("\n".join(rows) + "\n")
        self.assertEqual(len(answers), len(rows))
        self.assertEqual(answers[len(rows) - len(expected):], list(expected))

    def no_rows(self, ahead, rows, *behind):
        """No row is any of these; none of them changes what is told behind."""
        expected = answered("\n".join([*ahead, *behind]))[len(ahead):]
        for row in rows:
            with self.subTest(row=row):
                self.told([*ahead, row, *behind], NO_ROW, *expected)

    def refused(self, ahead, word, rows, *behind):
        expected = answered("\n".join([*ahead, *behind]))[len(ahead):]
        for row in rows:
            with self.subTest(row=row):
                self.told([*ahead, row, *behind], "refused " + word, *expected)


class RowsTest(DeskCase):
    def test_rows_and_line_feeds(self):
        self.assertEqual(answered(""), [])
        self.assertEqual(answered("\n"), [NO_ROW])
        self.assertEqual(answered("\n\n"), [NO_ROW, NO_ROW])
        self.assertEqual(answered("source a x 1"), ["ok"])
        self.assertEqual(answered("source a x 1\n"), ["ok"])
        self.assertEqual(answered("\nsource a x 1\n\nask b a"), [NO_ROW, "ok", NO_ROW, "ok"])
        self.assertIs(type(answered("source a x 1")), list)

    def test_words_are_parted_by_one_blank(self):
        self.no_rows(START, [" told q", "told q ", "told  q", " ", "told", "told\tq", "told q\r", "Told q", "tell q", "q", "told f q", "told x"], "told q")
        self.no_rows([], [" source a x 1", "source  a x 1", "source a x 1 ", "source a x  1"], "source a x 1")
        self.no_rows(SOURCES, [row.replace("ask q", other) for row in ASKS[:1] for other in (" ask q", "ask  q", "ask q ")], *ASKS)

    def test_each_desk_is_apart(self):
        self.assertEqual(answered("source a x 1"), answered("source a x 1"))


class StagesTest(DeskCase):
    def test_sources(self):
        self.told(["source a x 0", "source b x 5 y 1 z 3", "source c k 2"], "ok", "ok", "ok")
        self.no_rows(SOURCES, ["source", "source a", "source a x", "source a x y", "source a x 1 y", "source a x 1 2", "source a x 01",
                               "source a x -1", "source a x 1000000", "source a x +1", "source a 1 x", "source a x 1 y z"], *ASKS)
        self.refused(SOURCES, "NoSource", ["source rain x 1", "source a x 6", "source a x 999999", "source a x 1 x 1", "source Rain x 1", "source keep x 1",
                                           "source a of 1", "source toolong x 1", "source a x 1 y 1 z 1 w 1", "source a1 x 1", "source a x1 1"], *ASKS)
        self.refused(SOURCES + ["source snow z 1"], "NoSource", ["source a x 1"], *ASKS)
        self.no_rows(SOURCES + ASKS[:1], ["source a x 1", "source a x 6", "source rain x 1"], "told q")

    def test_questions(self):
        self.told(START, "ok", "ok", "ok", "ok")
        self.no_rows([], ASKS + ["ask q rain"], *SOURCES)
        self.no_rows(SOURCES, ["ask", "ask q", "ask rain", "ask of rain", "ask toolong rain", "ask Q rain", "ask q1 rain", "ask keep keep yes of rain"], *ASKS)
        self.refused(SOURCES, "NoText", ["ask q hail", "ask q (rain)", "ask q keep yes of (rain)", "ask q both rain and wind", "ask q rain rain",
                                         "ask q keep (x < 1) of rain", "ask q fold rain pane 0", "ask q source rain", "ask q q", "ask q keep"], *ASKS, "told q")
        self.no_rows(SOURCES + ASKS[:1], ["ask q rain", "ask q hail", ASKS[0]], ASKS[1], "told q")
        self.no_rows(START + ["mark rain 1"], ["ask r rain", "ask r hail", "source a x 1"], "told q")

    def test_what_begins_no_stage(self):
        self.told(["source a x 9", "source a x 1", "ask b c", "source c x 1", "ask b c"], "refused NoSource", "ok", "refused NoText", "ok", "ok")
        self.told(START + ["letter rain 5 9 9", "back rain 5 1 1", "mark rain 0", "letter rain", "told q", "final q at 0 1", "ask r rain", "letter rain 5 1 0",
                           "ask s rain"],
                  "refused NoLetter", "refused NoLetter", "refused NoMark", NO_ROW, "none", "letter rain 0 1 1", "ok", "r 5 1 0 +1", NO_ROW)

    def test_all_else_without_a_question(self):
        rows = ["letter rain 5 1 1", "back rain 5 1 1", "mark rain 5", "end rain", "told q", "why q 5 1", "final q 5 1", "lack q 5 1", "fall q 5 1", "kept q",
                "plain q", "parted q place place", "told", "rain"]
        self.no_rows([], rows, *SOURCES)
        self.no_rows(SOURCES, rows, *ASKS)

    def test_names_that_are_words_of_the_desk(self):
        names = ["told", "why", "final", "lack", "fall", "kept", "plain", "parted", "ask", "late", "none", "at", "ok"]
        rows = SOURCES + [f"ask {name} rain" for name in names] + ["letter rain 5 1 1"]
        self.told(rows + ["told told", "told ask", "kept late", "why at 5 1 1"], *["ok"] * len(names), "; ".join(f"{name} 5 1 1 +1" for name in names),
                  "5 1 1 1", "5 1 1 1", "rain 5 1 1", "letter(rain 5 1 1)")
        self.told(["source told told 1", "ask told told", "letter told 5 1", "told told"], "ok", "ok", "told 5 1 +1", "5 1 1")


class HappeningsTest(DeskCase):
    def test_changes(self):
        self.told(
            START + ["letter rain 17 1 4", "letter wind 18 1", "letter rain 12 1 1", "mark rain 13", "letter rain 12 1 1", "back rain 12 1 1", "back rain 17 1 4",
                     "letter rain 14 2 0", "end wind", "letter wind 50 1"],
            "q 19 1 10 20 1 4 +1", "f 18 1 4 1 +1", "q 19 1 10 20 1 4 -1; q 19 1 10 20 2 5 +1", "none", "late", "refused NoLetter",
            "q 19 1 10 20 1 1 +1; q 19 1 10 20 2 5 -1; f 18 1 4 1 -1", "none", "none", "late",
        )

    def test_counts_beyond_one(self):
        rows = SOURCES + ["ask f " + ASKS[1][len("ask f "):], "letter rain 5 1 0", "letter rain 5 1 0", "letter wind 5 1", "letter wind 5 1", "back rain 5 1 0"]
        self.told(rows, "none", "none", "f 5 1 0 1 +2", "f 5 1 0 1 +2", "f 5 1 0 1 -2")
        rows = ["source a x 1", "ask b keep (x = 0) of a", "ask c shape y (x - 3) of a", "letter a 0 0", "letter a 0 0", "told c"]
        self.told(rows, "b 0 0 +1; c 0 -3 +1", "b 0 0 +1; c 0 -3 +1", "0 -3 2")

    def test_happenings_of_no_form(self):
        self.no_rows(START, [
            "letter", "letter rain", "letter rain 5", "letter rain x 1 1", "letter rain 5 1 x", "letter rain 5 1 -1", "letter rain -5 1 1", "letter rain 05 1 1",
            "letter rain 5 01 1", "letter rain 1000000 1 1", "letter rain 5 1 1000000", "letter rain 5 1 1;", "back rain 5", "back", "mark", "mark rain", "mark rain x",
            "mark rain -1", "mark rain 05", "mark rain 5 5", "end", "end rain 5", "end rain wind", "late", "mark 5 rain",
        ], "letter rain 5 1 1", "told q", "kept f")

    def test_refused_happenings(self):
        ahead = START + ["letter rain 17 1 4", "mark rain 16", "end wind"]
        self.refused(ahead, "NoLetter", [
            "letter hail 17 1 4", "letter rain 17 1", "letter rain 17 1 4 1", "letter rain 17 3 4", "letter rain 17 1 6", "letter wind 17 1 1", "back rain 17 1 3",
            "back rain 15 1 4", "back wind 17 1", "mark hail 5", "end hail", "letter 5 5 5", "back hail 5 5", "mark wind1 5",
        ], "told q", "told f", "letter rain 16 1 1", "kept q")
        self.refused(ahead, "NoMark", ["mark rain 16", "mark rain 15", "mark rain 0", "mark wind 50", "end wind"], "told q", "mark rain 17", "end rain")


class AskedTest(DeskCase):
    rows = START + [VISITS, ALONE, OTHER_SORT, "letter rain 17 1 4", "letter wind 18 1", "letter rain 12 2 3", "letter rain 12 2 3"]

    def test_told(self):
        self.told(self.rows + ["told q", "told f", "told v", "told a", "told g"], "19 1 10 20 1 4 1; 19 2 10 20 2 6 1", "18 1 4 1 1",
                  "12 2 12 13 2 1; 17 1 17 18 1 1", "12 2 3 2", "14 10 15 2 1")
        self.told(START + ["told q", "told f"], "none", "none")
        self.no_rows(self.rows, ["told q q", "told q 5", "told h", "told"], "told q")

    def test_why(self):
        self.told(self.rows + [
            "why q 19 1 10 20 1 4", "why q 19 1 10 20 1 5", "why q 19 1 10 20 1", "why q 19", "why f 18 1 4 1", "why f 18 1 4", "why f 18 1 4 1 1", "why a 12 2 3",
            "why g 14 10 15 2", "why v 12 2 12 13 2", "why v 12 2 12 -13 2",
        ], "folded(10: kept(letter(rain 17 1 4)))", "none", "none", "none", "joined(letter(rain 17 1 4), shaped(letter(wind 18 1)))", "none", "none",
            "single(letter(rain 12 2 3))", "kept(folded(10: letter(rain 12 2 3)))", "folded(12: letter(rain 12 2 3))", "none")
        both = ["source a x 1", "ask b both a and (shape x (x - 1) of a)", "letter a 5 0", "letter a 5 1", "why b 5 0", "why b 5 -1", "why b 5 2"]
        self.told(both, "one(letter(a 5 0)); other(shaped(letter(a 5 1)))", "other(shaped(letter(a 5 0)))", "none")
        self.no_rows(self.rows, ["why", "why q", "why h 5 1", "why q at 5", "why q x", "why q -1 5", "why q 5 x", "why q 5 -0", "why q 05 1", "why q 5 --1",
                                 "why q 5 01", "why q 1000000 1", "why q 5 -"], "told q")

    def test_final(self):
        marks = ["mark rain 18", "mark wind 18"]
        self.told(self.rows + marks + ["final q at 10 1", "final q at 0 1", "final f 18 1 4 1", "final f 17 1 4 1", "final v at 12 2", "final a 12 2 3", "final q at 10 -1"],
                  "letter rain 18 1 1", "final", "letter wind 18 1", "final", "final", "final", "final")
        self.told(self.rows + ["mark rain 17", "final a 17 1 4"], "back wind 18 1")
        self.refused(self.rows, "NoSpot", ["final q at 10", "final q at 10 1 1", "final f 18", "final f 18 1 4", "final f 18 1 4 1 1", "final v at 10", "final a 12 2"],
                     "told q")
        self.refused(self.rows, "NoQuestion", ["final g 14 10 15 2", "final g 14 10", "lack g 14 10 15 2", "fall g 14", "lack v at 12 2", "lack a 12 2 3", "fall v at 12",
                                               "fall a 12"], "told q")

    def test_lack_and_fall(self):
        self.told(self.rows + ["lack q at 10 1", "lack q at 10 0", "lack q at 20 1", "lack q at 5 1", "lack f 18 1 4 1", "lack f 25 1 4 1", "lack f 18 1 4 2"],
                  "there", "come rain 10 0 1", "come rain 20 1 1", "never", "there", "come rain 24 1 4; wind 25 1", "never")
        self.told(self.rows + ["fall q at 10 1", "fall q at 10 2", "fall q at 20 1", "fall f 18 1 4 1", "mark rain 13", "fall q at 10 2", "letter rain 17 1 4",
                               "fall f 18 1 4 1"],
                  "back rain 17 1 4", "back rain 12 2 3", "gone", "back rain 17 1 4", "none", "stays", "q 19 1 10 20 1 4 -1; q 19 1 10 20 2 8 +1; f 18 1 4 1 +1; "
                  "v 17 1 17 18 1 -1; v 17 1 17 18 2 +1; g 19 15 20 2 +1", "back wind 18 1")
        self.refused(self.rows, "NoSpot", ["lack q at 10", "lack q at 10 1 1", "lack f 18", "fall f 18 1", "fall q at 10"], "told q")
        both = ["source a x 1", "ask b both a and (shape x (1 - x) of a)", "letter a 5 0", "letter a 5 1", "fall b 5 0", "back a 5 1", "back a 5 0", "lack b 5 0"]
        self.told(both, "back a 5 0; a 5 1", "b 5 0 -1; b 5 1 -1", "b 5 0 -1; b 5 1 -1", "come a 5 0")

    def test_spots_of_no_form(self):
        for word in ("final", "lack", "fall"):
            self.no_rows(self.rows, [word, f"{word} q", f"{word} q 10 1", f"{word} q at", f"{word} q at x 1", f"{word} q at 10 x", f"{word} q at -10 1",
                                     f"{word} q at 010 1", f"{word} f", f"{word} f at 18 1 4 1", f"{word} f x 1 4 1", f"{word} f -18 1 4 1", f"{word} h 5 1",
                                     f"{word} g at 10", f"{word} q at at 10 1", f"{word} f 18 1 4 -0", f"{word} f 1000000 1 4 1", f"{word} q at 10 1000000"], "told q")

    def test_kept(self):
        self.told(self.rows + ["kept q", "mark rain 18", "kept q", "mark rain 20", "kept q", "kept f", "mark wind 14", "kept f",
                               "end wind", "kept f"],
                  "rain 12 2 3; rain 17 1 4; wind 18 1", "none", "rain 12 2 3; rain 17 1 4; wind 18 1", "none", "wind 18 1",
                  "rain 12 2 3; rain 17 1 4; wind 18 1", "none", "rain 17 1 4; wind 18 1", "none", "none")
        self.refused(self.rows, "NoQuestion", ["kept v", "kept a", "kept g"], "told q")
        self.no_rows(self.rows, ["kept", "kept q q", "kept h"], "told q")

    def test_plain(self):
        rows = ["source a x 1", "ask b keep yes of (keep (x = 1) of (shape x x of a))", "plain b", "ask c both a and (keep yes of a)", "plain c"]
        self.told(rows, "keep (x = 1) of a", "ok", "both a and a")
        self.no_rows(self.rows, ["plain", "plain q q", "plain h"], "told q")

    def mixed(self, name, key):
        """The letters by which a question of these rows isn't parted."""
        sources = (("rain", (("place", 2), ("depth", 5))), ("wind", (("place", 2),)))
        asks = [row.split(" ", 2)[2] for row in self.rows if row.startswith(f"ask {name} ")]
        return "; ".join(f"{one[0]} {one[1]} " + " ".join(map(str, one[2])) for one in parted_by(read_question(sources, asks[0]), key))

    def test_parted(self):
        self.told(self.rows + ["parted q place place", "parted f place place", "parted f depth place", "parted a place place", "parted v place place"],
                  "parted", "parted", self.mixed("f", ("depth", "place")), "parted", "parted")
        self.told(["source a x 1", "ask b fold a pane 5", "parted b x"], "a 0 0; a 0 1")
        self.refused(self.rows, "NoKey", ["parted q place", "parted q place place place", "parted q place depth", "parted q x place", "parted q 1 1"], "told q")
        self.refused(self.rows, "NoQuestion", ["parted g place place", "parted g x"], "told q")
        self.no_rows(self.rows, ["parted", "parted q", "parted h place place"], "told q")


class ManyMadeTest(DeskCase):
    def listed(self, pieces):
        return "; ".join(pieces) if pieces else "none"

    def row(self, *numbers):
        return " ".join(str(number) for number in numbers)

    def letters(self, letters):
        return self.listed([self.row(name, moment, *row) for name, moment, row in letters])

    def happening(self, happening):
        if happening[0] in ("letter", "back"):
            return happening[0] + " " + self.letters([happening[1]])
        return self.row(*happening)

    def asked(self, asked, river, where):
        """Rows that ask for a spot, and what the functions tell of it."""
        moment, row = where if asked.tree()[0] != "fold" else (where[1], where[0])
        spot = ("at " if asked.tree()[0] == "fold" else "") + self.row(moment, *row)
        told = settled(asked, river, where)
        yield f"final b {spot}", self.listed([self.happening(one) for one in told[1]]) if told[0] == "may" else told[0]
        if asked.is_flat() or asked.tree()[0] == "fold" and asked.tree()[3][0] != "visit":
            for word, told in (("lack", lacking(asked, river, where)), ("fall", falling(asked, river, where))):
                yield f"{word} b {spot}", f"{told[0]} {self.letters(told[1])}" if told[0] in ("come", "back") else told[0]

    def test_what_the_functions_tell(self):
        for number in range(120):
            maker = Maker(number)
            tree = maker.random.choice([maker.flat, maker.fold, maker.alone])()
            asked = Question(maker.sources, tree)
            mill, river = Mill(maker.sources, [asked]), River(maker.sources)
            rows = [self.row("source", name, *[thing for column in columns for thing in column]) for name, columns in maker.sources]
            rows.append("ask b " + question_text(tree))
            expected = ["ok"] * len(rows)
            for happening in maker.happenings(river, 10, 6):
                rows.append(self.happening(happening))
                changes, counted = mill.take(happening)[0], river.take(happening)
                pieces = [f"b {self.row(moment, *row)} {count:+d}" for moment, row, count in changes]
                expected.append(self.listed(pieces) if counted else "late")
            answer = mill.answers()[0]
            for (moment, row), _ in sorted(answer.items())[:4]:
                rows.append(f"why b {self.row(moment, *row)}")
                papers = papers_of(asked, river.standing(), moment, row)
                expected.append(self.listed([paper_text(paper) for paper in papers]))
                many = len(tree[2]) if tree[0] == "fold" else 0
                where = (row[:many], row[many]) if tree[0] == "fold" else (moment, row)
                for ask, told in self.asked(asked, river, where):
                    rows.append(ask)
                    expected.append(told)
            key = maker.random.choice(keys_of(asked) or [tuple(columns[0][0] for _, columns in maker.sources)])
            letters = parted_by(asked, key)
            rows += ["told b", "plain b", f"parted b {' '.join(key)}"]
            expected += [self.listed([self.row(moment, *row, count) for (moment, row), count in sorted(answer.items())]),
                         question_text(plain_form(maker.sources, tree)), "parted" if letters is None else self.letters(letters)]
            if asked.is_flat():
                rows.append("kept b")
                expected.append(self.letters(kept_of(asked, river)))
            self.assertEqual(list(zip(rows, answered("\n".join(rows)))), list(zip(rows, expected)))
