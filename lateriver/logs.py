"""Logs of happenings, which can be fed again, stopped and begun anew: point 151 of the document."""

from lateriver.bags import summed
from lateriver.deltas import delta
from lateriver.errors import NoAsk, NoText, RiverError
from lateriver.keeping import kept_of, river_of_kept
from lateriver.mills import Mill
from lateriver.names import is_whole
from lateriver.questions import question_text, read_question
from lateriver.rivers import River, is_happening
from lateriver.rows import happening_in, happening_row, numbers_in, source_in, source_row

# Numbers in a log's text may be as long as numbers that are handed in ever are.
MOST_FIGURES = 300


class Log:
    """What takes happenings by their numbers and keeps what it told of each."""

    def __init__(self, sources, questions):
        self._mill = Mill(sources, questions)
        self._river = River(sources)
        self._questions = list(questions)
        self._happenings = []
        # Of each happening whether it was counted, and what was told.
        self._counted = []
        self._told = []
        self._seen = 0
        # Of a shrunk log: the number from which on it keeps happenings, what stood then, and what was due.
        self._is_shrunk = False
        self._first = 0
        self._stood = {}
        self._was_due = []

    def feed(self, number, happening):
        """The Mill's changes by the happening of the next number, or those told of one that was fed."""
        if not is_whole(number) or not self._first <= number <= self.fed():
            raise NoAsk("this number can't be fed")
        if number == self.fed():
            counted = self._river.take(happening)
            self._told.append(self._mill.take(happening))
            self._counted.append(counted)
            self._happenings.append(happening)
        elif not self._is_fed_as(number, happening):
            raise NoAsk("another happening was fed by this number")
        return self.told(number)

    def fed(self):
        """The next number."""
        return self._first + len(self._happenings)

    def told(self, number):
        """What feed told of a number."""
        self._refuse_not_fed(number)
        return [list(changes) for changes in self._told[number - self._first]]

    def at(self, number):
        """The list of the questions' bags behind so many happenings."""
        if self._is_shrunk or not is_whole(number) or not 0 <= number <= self.fed():
            raise NoAsk("what was told behind so many happenings is not known")
        found = []
        for question_number in range(len(self._questions)):
            changes = []
            for told in self._told[:number]:
                changes.extend(told[question_number])
            found.append(summed(changes))
        return found

    def due(self):
        """The rising list of (number, question's number, moment, row, count) of changes that aren't done with."""
        found = [due for due in self._was_due if due[0] >= self._seen]
        for number in range(max(self._first, self._seen), self.fed()):
            for question_number, changes in enumerate(self._told[number - self._first]):
                found.extend([(number, question_number, *change) for change in changes])
        return found

    def seen(self, number):
        """The changes of happenings below a number are done with."""
        if not is_whole(number) or not self._seen <= number <= self.fed():
            raise NoAsk("this number can't be seen")
        self._seen = number

    def away(self, number):
        """The list of the bags by which the answers would be other, were the letter of a number not fed."""
        self._refuse_not_fed(number)
        happening = self._happenings[number - self._first]
        if happening[0] != "letter" or not self._counted[number - self._first]:
            raise NoAsk("this happening is no letter that was counted")
        self._refuse_back_of_none(number, happening[1])
        letters = self._river.standing()
        return [delta(question, letters, happening[1], -1) for question in self._questions]

    def shrunk(self):
        """A log with the same next number, marks, ends and dues, of the letters that must be kept alone."""
        kept = [letter for letter in self._river.standing() if self._river.is_open(letter)]
        for question in self._questions:
            kept.extend(kept_of(question, self._river))
        other = Log(self._river.sources(), self._questions)
        other._river = river_of_kept(self._river, kept)
        for happening in other._river.happened():
            other._mill.take(happening)
        other._is_shrunk = True
        other._first = self.fed()
        other._stood = other._river.standing()
        other._was_due = self.due()
        other._seen = self._seen
        return other

    def rows(self):
        """The rows of the log's text."""
        if self._is_shrunk:
            raise NoAsk("a shrunk log has no text")
        rows = [source_row(source) for source in self._river.sources()]
        rows.extend(["ask " + question_text(question.tree()) for question in self._questions])
        rows.extend([happening_row(happening) for happening in self._happenings])
        return [*rows, f"seen {self._seen}"]

    def _refuse_not_fed(self, number):
        if not is_whole(number) or not self._first <= number < self.fed():
            raise NoAsk("no happening was fed by this number, or it is no more kept")

    def _is_fed_as(self, number, happening):
        # What is a happening has no truths in numbers' places, which would be like these.
        if not is_happening(self._river.sources(), happening):
            return False
        return happening == self._happenings[number - self._first]

    def _refuse_back_of_none(self, number, letter):
        """NoAsk where some back of a letter would have none to take without the one of a number."""
        count = self._stood.get(letter, 0)
        for at, happening in enumerate(self._happenings):
            if happening[1] == letter and self._counted[at] and self._first + at != number:
                count += 1 if happening[0] == "letter" else -1
            if count < 0:
                raise NoAsk("a back would have no letter to take")


def log_text(log):
    """The text of a log that isn't shrunk."""
    return "".join([row + "\n" for row in log.rows()])


def begun_of(text):
    """The log that a text was written of."""
    if not text.endswith("\n"):
        raise NoText("the last row does not end")
    try:
        log = _log_of(text.split("\n"))
    except RiverError:
        raise NoText("this is the text of no log") from None
    # What is written otherwise than it would be is no log's text, whatever was read of it.
    if log_text(log) != text:
        raise NoText("this is the text of no log")
    return log


def _log_of(rows):
    """A log of rows, an empty one behind them; what they have beyond it may be passed over."""
    sources, questions, at = [], [], 0
    while rows[at].startswith("source "):
        sources.append(_not_none(source_in(rows[at].split(" "), MOST_FIGURES)))
        at += 1
    while rows[at].startswith("ask "):
        questions.append(read_question(tuple(sources), rows[at][len("ask "):]))
        at += 1
    log = Log(tuple(sources), questions)
    for row in rows[at:-2]:
        log.feed(log.fed(), _not_none(happening_in(row.split(" "), MOST_FIGURES)))
    numbers = _not_none(numbers_in(rows[-2].split(" ")[1:], MOST_FIGURES))
    if len(numbers) == 0:
        raise NoText("the last row tells no number")
    log.seen(numbers[0])
    return log


def _not_none(thing):
    if thing is None:
        raise NoText("a row is of no form")
    return thing
