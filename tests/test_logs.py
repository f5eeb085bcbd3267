"""lateriver/logs.py: point 151, and of point 2 (a), (h), (i) and (j)."""

import copy

from lateriver.bags import less, summed
from lateriver.errors import NoAsk, NoLetter, NoMark, NoQuestion, NoSource, NoText
from lateriver.keeping import kept_of
from lateriver.logs import Log, begun_of, log_text
from lateriver.mills import Mill
from lateriver.questions import Question
from lateriver.rivers import River
from tests.asking import TWO, Maker, slow_answer
from tests.refusals import ANYTHING, Everything, RefusalCase, deep_tuple
from tests.test_finals import letter, question
from tests.test_keeping import OTHERS
from tests.test_mills import NO_HAPPENINGS
from tests.test_plain import RAIN, SNOW, SOURCES, WIND, X, fold
from tests.test_sources import BAD as NO_SOURCES

JOINED = ("join", RAIN, WIND, (("x", "z"),), -1, 2)
PANES = fold(("pane", 5), ("x",))
NO_NUMBERS = [thing for thing in ANYTHING if thing not in (0, 1)] + [True, False, Everything(), "0", (0,), -1, deep_tuple(0)]
ROWS = [
    letter("rain", 5, 1, 2), letter("wind", 6, 1), ("mark", "rain", 6), letter("rain", 5, 1, 2), letter("rain", 7, 1, 0),
    ("back", ("rain", 7, (1, 0))), letter("rain", 6, 0, 0), ("end", "wind"), letter("wind", 9, 2), letter("rain", 6, 1, 1),
]
TEXT = """source rain x 2 y 5
source wind z 2
source snow x 2 y 5
ask join rain and wind on x z from -1 to 2
ask fold rain by x pane 5
letter rain 5 1 2
letter wind 6 1
mark rain 6
letter rain 5 1 2
letter rain 7 1 0
back rain 7 1 0
letter rain 6 0 0
end wind
letter wind 9 2
letter rain 6 1 1
seen 4
"""
NO_TEXTS = [
    "", "\n", "seen 0\n", "source a x 1\n", "source a x 1\nseen 0", "source a x 1\nseen\n", "source a x 1\nseen 1\n", "source a x 1\nseen -1\n",
    "source a x 1\nseen 00\n", "source a x 1\nseen 0 \n", "source a x 1\nseen 0 0\n", "source a x 1\nseen 0\nseen 0\n", "source a x 1\n\nseen 0\n",
    "source a x 1\nseen 0\n\n", " source a x 1\nseen 0\n", "source a  x 1\nseen 0\n", "source a x 6\nseen 0\n", "source a x 01\nseen 0\n", "source a x\nseen 0\n",
    "source a\nseen 0\n", "source keep x 1\nseen 0\n", "source a x 1 x 1\nseen 0\n", "source a x 1\nsource a x 1\nseen 0\n", "ask a\nseen 0\n",
    "source a x 1\nask b\nseen 0\n", "source a x 1\nask  a\nseen 0\n", "source a x 1\nask\nseen 0\n", "source a x 1\nask a\nsource b x 1\nseen 0\n",
    "source a x 1\nletter a 5 1\nask a\nseen 1\n", "source a x 1\nletter a 5 2\nseen 1\n", "source a x 1\nletter a 5\nseen 1\n", "source a x 1\nletter a 5 1 1\nseen 1\n",
    "source a x 1\nletter b 5 1\nseen 1\n", "source a x 1\nback a 5 1\nseen 1\n", "source a x 1\nletter a 5 1\nback a 5 1\nback a 5 1\nseen 1\n",
    "source a x 1\nmark a 0\nseen 1\n", "source a x 1\nmark a 5\nmark a 5\nseen 1\n", "source a x 1\nend a\nend a\nseen 1\n", "source a x 1\nend a 5\nseen 1\n",
    "source a x 1\nend a\nmark a 5\nseen 1\n", "source a x 1\nmark a\nseen 0\n", "source a x 1\nmark a 5 5\nseen 0\n", "source a x 1\nletter a 5 -1\nseen 0\n",
    "source a x 1\nletter a 05 1\nseen 0\n", "source a x 1\nlog a 5\nseen 0\n", "source a x 1\nseen 0\nletter a 5 1\n", "source a x 1\r\nseen 0\r\n",
    "source a x 1\nletter a " + "9" * 5000 + " 1\nseen 0\n", "source a x 1\nmark a\t5\nseen 0\n", "letter a 5 1\nseen 0\n",
    "source a x 1", "source a x 1\nask a", "source a x 1\nask a\nletter a 5 1", "seen 0", " ", "source", "ask",
    "source a x 1\nletter a \u0665 1\nseen 0\n", "source a x 1\nletter a \u00b2 1\nseen 0\n", "source a x 1\nask keep yes of (a)\nseen 0\n",
]


def log_of(*trees, happenings=()):
    log = Log(SOURCES, [question(tree) for tree in trees])
    for number, happening in enumerate(happenings):
        log.feed(number, happening)
    return log


class LogCase(RefusalCase):
    def all_of(self, log):
        """All that a log tells of itself."""
        told, away, at = [], [], []
        for number in range(log.fed() + 1):
            for function, found in ((log.told, told), (log.away, away), (log.at, at)):
                try:
                    found.append(function(number))
                except NoAsk:
                    found.append(None)
        return log.fed(), log.due(), told, away, at

    def refused_unchanged(self, error, log, function, *things):
        before = self.all_of(log)
        self.refused(error, function, *things)
        self.assertEqual(self.all_of(log), before)


class FeedTest(LogCase):
    def test_as_a_mill(self):
        log, mill = log_of(JOINED, PANES), Mill(SOURCES, [question(JOINED), question(PANES)])
        self.assertEqual((log.fed(), log.at(0), log.due()), (0, [{}, {}], []))
        for number, happening in enumerate(ROWS):
            told = mill.take(happening)
            self.assertEqual(log.feed(number, happening), told)
            self.assertEqual(log.told(number), told)
            self.assertEqual(log.fed(), number + 1)
            self.assertEqual(log.at(number + 1), mill.answers())

    def test_fed_again(self):
        log = log_of(JOINED, PANES, happenings=ROWS)
        before = self.all_of(log)
        for numbers in (range(len(ROWS)), reversed(range(len(ROWS)))):
            for number in numbers:
                self.assertEqual(log.feed(number, ROWS[number]), before[2][number])
        self.assertEqual(self.all_of(log), before)

    def test_another_happening(self):
        log = log_of(JOINED, PANES, happenings=ROWS)
        for number, happening in enumerate(ROWS):
            for other in ROWS + ANYTHING + NO_HAPPENINGS:
                if not (isinstance(other, tuple) and other == happening):
                    self.refused_unchanged(NoAsk, log, log.feed, number, other)
            self.refused_unchanged(NoAsk, log, log.feed, number, list(happening))

    def test_truths_are_no_numbers(self):
        log = log_of(RAIN, happenings=[letter("rain", 1, 1, 0), ("mark", "rain", 1)])
        for number, happening in [(0, ("letter", ("rain", True, (1, 0)))), (0, ("letter", ("rain", 1, (True, 0)))), (1, ("mark", "rain", True)),
                                  (True, ("mark", "rain", 1)), (False, letter("rain", 1, 1, 0))]:
            self.refused_unchanged(NoAsk, log, log.feed, number, happening)
        self.assertEqual(log.feed(1, ("mark", "rain", 1)), [[]])

    def test_other_numbers_ahead_of_all(self):
        log = log_of(RAIN, happenings=ROWS[:2])
        for number in NO_NUMBERS + [3, 4, 10 ** 9, -2]:
            for happening in [ROWS[2], None, ("mark", "rain", 0)]:
                self.refused_unchanged(NoAsk, log, log.feed, number, happening)

    def test_refused_as_a_mill(self):
        log = log_of(JOINED, PANES, happenings=ROWS)
        for happening in NO_HAPPENINGS + ANYTHING + [("back", ("rain", 8, (1, 2))), ("back", ("rain", 5, (1, 2)))]:
            self.refused_unchanged(NoLetter, log, log.feed, len(ROWS), happening)
        for happening in [("mark", "rain", 6), ("mark", "wind", 50), ("end", "wind")]:
            self.refused_unchanged(NoMark, log, log.feed, len(ROWS), happening)
        self.assertEqual(log.feed(len(ROWS), letter("rain", 6, 2, 0)), [[], [(9, (2, 5, 10, 1), 1)]])

    def test_no_sources_then_no_questions(self):
        for sources in NO_SOURCES + ANYTHING + [Everything()]:
            self.refused(NoSource, Log, sources, [])
            self.refused(NoSource, Log, sources, None)
        for questions in [thing for thing in ANYTHING if thing != []] + [Everything(), (question(RAIN),), [RAIN], [question(RAIN), None],
                                                                         [Question(TWO, RAIN)]]:
            self.refused(NoQuestion, Log, SOURCES, questions)

    def test_more_than_three_hundred(self):
        log = log_of(RAIN)
        for number in range(305):
            one = letter("rain", number // 2, 1, 1) if number % 2 == 0 else ("back", ("rain", number // 2, (1, 1)))
            log.feed(number, one)
        self.assertEqual((log.fed(), log.at(305)), (305, [{(152, (1, 1)): 1}]))
        self.assertEqual(log_text(begun_of(log_text(log))), log_text(log))

    def test_what_is_handed_in_is_not_kept_and_what_is_told_is_the_askers_own(self):
        questions = [question(RAIN)]
        log = Log(SOURCES, questions)
        questions.append(question(WIND))
        told = log.feed(0, ROWS[0])
        before = copy.deepcopy(self.all_of(log))
        for thing in (told, told[0], log.told(0), log.told(0)[0], log.at(1)[0], log.at(1), log.due(), log.away(0), log.away(0)[0]):
            thing.clear()
        self.assertEqual(self.all_of(log), before)
        self.assertEqual(log.at(1), [{(5, (1, 2)): 1}])


class SeenTest(LogCase):
    def test_due_and_seen(self):
        log = log_of(RAIN, PANES, happenings=ROWS[:4])
        due = [(0, 0, 5, (1, 2), 1), (0, 1, 9, (1, 5, 10, 1), 1)]
        self.assertEqual(log.due(), due)
        self.assertIsNone(log.seen(0))
        self.assertEqual(log.due(), due)
        self.assertIsNone(log.seen(1))
        self.assertEqual(log.due(), [])
        log.feed(4, ROWS[4])
        self.assertEqual(log.due(), [(4, 0, 7, (1, 0), 1), (4, 1, 9, (1, 5, 10, 1), -1), (4, 1, 9, (1, 5, 10, 2), 1)])
        self.assertIsNone(log.seen(1))
        self.assertIsNone(log.seen(5))
        self.assertEqual(log.due(), [])
        self.assertEqual(log.told(0), [[(5, (1, 2), 1)], [(9, (1, 5, 10, 1), 1)]])

    def test_no_numbers(self):
        log = log_of(RAIN, happenings=ROWS[:5])
        log.seen(3)
        for number in NO_NUMBERS + [0, 1, 2, 6, 7, -3]:
            self.refused_unchanged(NoAsk, log, log.seen, number)
        for number in (3, 3, 5):
            self.assertIsNone(log.seen(number))
        self.refused_unchanged(NoAsk, log, log.seen, 4)

    def test_numbers_of_told_and_at(self):
        log = log_of(RAIN, happenings=ROWS[:2])
        for number in NO_NUMBERS + [2, 3, -2]:
            self.refused_unchanged(NoAsk, log, log.told, number)
            self.refused_unchanged(NoAsk, log, log.away, number)
            if number != 2:
                self.refused_unchanged(NoAsk, log, log.at, number)
        self.assertEqual([log.at(number) for number in range(3)], [[{}], [{(5, (1, 2)): 1}], [{(5, (1, 2)): 1}]])


class AwayTest(LogCase):
    def test_letters_that_stand(self):
        log = log_of(JOINED, PANES, happenings=ROWS)
        self.assertEqual(log.away(0), [{(6, (1, 2, 1)): -1}, {(9, (1, 5, 10, 1)): 1, (9, (1, 5, 10, 2)): -1}])
        self.assertEqual(log.away(1), [{(6, (1, 2, 1)): -1, (6, (1, 1, 1)): -1}, {}])
        self.assertEqual(log.away(6), [{}, {(9, (0, 5, 10, 1)): -1}])

    def test_what_is_no_letter_that_was_counted(self):
        log = log_of(JOINED, PANES, happenings=ROWS)
        for number in (2, 3, 5, 7, 8):
            self.refused_unchanged(NoAsk, log, log.away, number)

    def test_letters_that_were_taken_back(self):
        one, back = letter("rain", 5, 1, 2), ("back", ("rain", 5, (1, 2)))
        log = log_of(RAIN, happenings=[one, back, one, one, back, letter("rain", 6, 1, 2)])
        self.refused_unchanged(NoAsk, log, log.away, 0)
        for number in (2, 3):
            self.assertEqual(log.away(number), [{(5, (1, 2)): -1}])
        log = log_of(RAIN, happenings=[one, one, back])
        for number in (0, 1):
            self.assertEqual(log.away(number), [{(5, (1, 2)): -1}])
        log = log_of(RAIN, happenings=[one, one, back, back, one])
        for number in (0, 1):
            self.refused_unchanged(NoAsk, log, log.away, number)
        self.assertEqual(log.away(4), [{(5, (1, 2)): -1}])

    def test_many_made_ones(self):
        for number in range(120):
            maker = Maker(number)
            trees = [maker.tree() for _ in range(2)]
            happenings = maker.happenings(River(maker.sources), 12, 6)
            log = Log(maker.sources, [Question(maker.sources, tree) for tree in trees])
            river = River(maker.sources)
            counted = []
            for at, happening in enumerate(happenings):
                log.feed(at, happening)
                counted.append(river.take(happening))
            for at, happening in enumerate(happenings):
                other = self.river_without(maker.sources, happenings, at)
                if happening[0] != "letter" or not counted[at] or other is None:
                    self.refused_unchanged(NoAsk, log, log.away, at)
                    continue
                answers = [[slow_answer(maker.sources, tree, one.standing()) for tree in trees] for one in (river, other)]
                self.assertEqual(log.away(at), [less(behind, now) for now, behind in zip(*answers)])

    def river_without(self, sources, happenings, number):
        river = River(sources)
        for at, happening in enumerate(happenings):
            try:
                if at != number:
                    river.take(happening)
            except NoLetter:
                return None
        return river


class TextTest(LogCase):
    def test_written_and_read(self):
        log = log_of(JOINED, PANES, happenings=ROWS)
        log.seen(4)
        self.assertEqual(log_text(log), TEXT)
        other = begun_of(TEXT)
        self.assertIsInstance(other, Log)
        self.assertEqual(self.all_of(other), self.all_of(log))
        self.assertEqual(log_text(other), TEXT)
        self.assertEqual(log_text(log_of()), "".join(TEXT.split("ask")[0]) + "seen 0\n")

    def test_begun_anew_and_gone_on_with(self):
        for number in range(100):
            maker = Maker(number)
            questions = [Question(maker.sources, maker.tree()) for _ in range(maker.random.randint(0, 2))]
            happenings = maker.happenings(River(maker.sources), 14, 6)
            whole, log, shown = Log(maker.sources, questions), Log(maker.sources, questions), []
            for at, happening in enumerate(happenings):
                told = whole.feed(at, happening)
                self.assertEqual(log.feed(at, happening), told)
                if maker.random.random() < 0.3:
                    log = begun_of(log_text(log))
                    for again in range(maker.random.randint(0, at), at + 1):
                        self.assertEqual(log.feed(again, happenings[again]), whole.told(again))
                if maker.random.random() < 0.3:
                    shown += log.due()
                    log.seen(at + 1)
            self.assertEqual(self.all_of(log)[2:], self.all_of(whole)[2:])
            shown += log.due()
            self.assertEqual(shown, whole.due())
            for at in range(len(questions)):
                told = [(moment, row, count) for _, asked, moment, row, count in shown if asked == at]
                self.assertEqual(summed(told), whole.at(whole.fed())[at])

    def test_no_texts(self):
        for text in NO_TEXTS:
            self.refused(NoText, begun_of, text)

    def test_one_sign_otherwise(self):
        for at in range(len(TEXT) + 1):
            for sign in ["", " ", "\n", "0", "1", "9", "x", "-", "(", "\r"]:
                for other in (TEXT[:at] + sign + TEXT[at + 1:], TEXT[:at] + sign + TEXT[at:]):
                    try:
                        log = begun_of(other)
                    except NoText:
                        self.assertNotEqual(other, TEXT)
                        continue
                    self.assertEqual(log_text(log), other)

    def test_long_numbers(self):
        log = log_of(RAIN, happenings=[letter("rain", 10 ** 20, 1, 1), ("mark", "rain", 10 ** 12)])
        self.assertEqual(self.all_of(begun_of(log_text(log))), self.all_of(log))


class ShrunkTest(LogCase):
    def test_a_shrunk_log(self):
        log = log_of(JOINED, PANES, happenings=ROWS)
        log.seen(5)
        before = self.all_of(log)
        other = log.shrunk()
        self.assertIsInstance(other, Log)
        self.assertEqual((other.fed(), other.due()), (log.fed(), log.due()))
        for number in range(len(ROWS)):
            self.refused_unchanged(NoAsk, other, other.told, number)
            self.refused_unchanged(NoAsk, other, other.away, number)
            self.refused_unchanged(NoAsk, other, other.feed, number, ROWS[number])
        for number in range(len(ROWS) + 1):
            self.refused_unchanged(NoAsk, other, other.at, number)
        self.refused_unchanged(NoAsk, other, log_text, other)
        for number in NO_NUMBERS + [4, 11]:
            self.refused_unchanged(NoAsk, other, other.seen, number)
        for happening in [("mark", "rain", 6), ("end", "wind")]:
            self.refused_unchanged(NoMark, other, other.feed, 10, happening)
        for happening in [("back", ("rain", 5, (1, 2))), ("back", ("rain", 7, (1, 0))), None]:
            self.refused_unchanged(NoLetter, other, other.feed, 10, happening)
        self.assertEqual(self.all_of(log), before)
        for number, happening in enumerate([letter("rain", 8, 1, 5), letter("wind", 9, 1), ("back", ("rain", 6, (1, 1)))], len(ROWS)):
            self.assertEqual(other.feed(number, happening), log.feed(number, happening))
            self.assertEqual(other.told(number), log.told(number))
            self.assertEqual(other.due(), log.due())
            self.assertEqual(other.feed(number, happening), log.told(number))
            self.refused_unchanged(NoAsk, other, other.feed, number, ("end", "rain"))
        self.assertEqual(other.away(10), log.away(10))
        self.refused_unchanged(NoAsk, other, other.away, 12)
        self.assertIsNone(other.seen(11))
        self.assertEqual(other.due(), [due for due in log.due() if due[0] >= 11])
        self.refused_unchanged(NoAsk, other, other.at, 13)

    def test_the_letters_are_those_that_are_kept(self):
        # What no question keeps can't be asked back by any change: it shows where all stands are told at once.
        log = log_of(JOINED, happenings=[letter("rain", 5, 1, 2), letter("rain", 2, 1, 2), letter("snow", 1, 0, 0), ("mark", "rain", 6), ("mark", "wind", 6)])
        other = log.shrunk()
        self.assertEqual(other.feed(5, letter("wind", 6, 1)), log.feed(5, letter("wind", 6, 1)))
        self.assertEqual(other.feed(6, ("back", ("snow", 1, (0, 0)))), log.feed(6, ("back", ("snow", 1, (0, 0)))))
        self.assertEqual(other.away(5), [{(6, (1, 2, 1)): -1}])

    def test_an_empty_log(self):
        other = log_of(RAIN).shrunk()
        self.assertEqual((other.fed(), other.due()), (0, []))
        self.refused_unchanged(NoAsk, other, other.at, 0)
        self.refused_unchanged(NoAsk, other, log_text, other)
        self.assertEqual(other.feed(0, ROWS[0]), [[(5, (1, 2), 1)]])
        self.assertEqual(other.told(0), [[(5, (1, 2), 1)]])

    def test_questions_of_other_sorts(self):
        for tree in OTHERS:
            log = log_of(RAIN, tree, happenings=ROWS)
            self.refused_unchanged(NoQuestion, log, log.shrunk)

    def test_shrunk_logs_beside_whole_ones(self):
        for number in range(150):
            maker = Maker(number)
            trees = [maker.random.choice([maker.flat, lambda: maker.fold(3, 2, ("pane", "slide"))])() for _ in range(2)]
            questions = [Question(maker.sources, tree) for tree in trees]
            happenings = maker.happenings(River(maker.sources), 16, 7)
            whole, log, first = Log(maker.sources, questions), Log(maker.sources, questions), 0
            for at, happening in enumerate(happenings):
                self.assertEqual(log.feed(at, happening), whole.feed(at, happening))
                if maker.random.random() < 0.2:
                    seen = maker.random.randint(whole_seen(whole), at + 1)
                    whole.seen(seen)
                    log.seen(seen)
                if maker.random.random() < 0.25:
                    log, first = log.shrunk(), at + 1
                self.assertEqual((log.fed(), log.due()), (whole.fed(), whole.due()))
            told, others = self.all_of(log), self.all_of(whole)
            self.assertEqual(told[2][first:], others[2][first:])
            self.assertEqual(told[3][first:], others[3][first:])
            self.assertEqual((told[2][:first], told[3][:first]), ([None] * first, [None] * first))

    def test_what_lasts_is_what_is_kept(self):
        for number in range(60):
            maker = Maker(number)
            asked = Question(maker.sources, maker.flat())
            log, river = Log(maker.sources, [asked]), River(maker.sources)
            for at, happening in enumerate(maker.happenings(river, 12, 6)):
                log.feed(at, happening)
                river.take(happening)
            other = log.shrunk()
            for one in kept_of(asked, river):
                if river.is_open(one):
                    self.assertEqual(other.feed(other.fed(), ("back", one)), log.feed(log.fed(), ("back", one)))


def whole_seen(log):
    """The least number that may yet be seen, by the text of a log."""
    return int(log_text(log).split()[-1])


class FoldTest(LogCase):
    def test_folds_are_shrunk_by_their_windows(self):
        log = log_of(fold(("pane", 5)), ("keep", SNOW, ("is", X, X)), happenings=[letter("rain", 3, 1, 1), letter("rain", 6, 1, 1), ("mark", "rain", 7)])
        other = log.shrunk()
        for at, happening in enumerate([letter("rain", 8, 0, 0), ("back", ("rain", 8, (0, 0))), letter("snow", 0, 0, 0)], 3):
            self.assertEqual(other.feed(at, happening), log.feed(at, happening))
        self.assertEqual(other.told(3)[0], [(9, (5, 10, 1), -1), (9, (5, 10, 2), 1)])
