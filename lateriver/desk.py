"""The desk, which answers the rows of a text: points 161 and 162 of the document."""

from lateriver.bags import changes_of
from lateriver.errors import NoKey, NoLetter, NoMark, NoQuestion, NoSource, NoSpot, NoText
from lateriver.finals import settled
from lateriver.forms import plain_form
from lateriver.keeping import kept_of
from lateriver.lacks import falling, lacking
from lateriver.mills import Mill
from lateriver.names import is_name
from lateriver.papers import paper_text, papers_of
from lateriver.parting import parted_by
from lateriver.questions import question_text, read_question
from lateriver.rivers import River
from lateriver.rows import happening_in, happening_row, letter_row, numbers_in, source_in
from lateriver.sources import are_sources
from lateriver.texts import MOST_PLAIN_FIGURES, is_number

HAPPENINGS = ("letter", "back", "mark", "end")


def answered(text):
    """The list of the answers to the rows of a text."""
    rows = text.split("\n")
    if rows[-1] == "":
        rows.pop()
    desk = Desk()
    return [desk.answer(row) for row in rows]


class Desk:
    """What takes rows one by one: sources, then questions, then happenings and all that is asked of these."""

    def __init__(self):
        self._sources = ()
        # The questions by their names, as they were told.
        self._questions = {}
        # Both are None ahead of the first happening.
        self._river = None
        self._mill = None

    def answer(self, row):
        """The answer to a row."""
        words = row.split(" ")
        try:
            told = self._answer_to(words) if "" not in words else None
        except NoSource:
            return "refused NoSource"
        except NoQuestion:
            return "refused NoQuestion"
        except NoText:
            return "refused NoText"
        except NoLetter:
            return "refused NoLetter"
        except NoMark:
            return "refused NoMark"
        except NoSpot:
            return "refused NoSpot"
        except NoKey:
            return "refused NoKey"
        return "no row" if told is None else told

    def _answer_to(self, words):
        """The answer to a row's words, None where they are no row."""
        if words[0] == "source":
            return self._take_source(words)
        if words[0] == "ask":
            return self._take_question(words)
        if len(self._questions) == 0:
            return None
        if words[0] in HAPPENINGS:
            return self._take_happening(words)
        if len(words) < 2 or words[1] not in self._questions:
            return None
        return self._tell(words[0], words[1], words[2:])

    def _take_source(self, words):
        source = source_in(words, MOST_PLAIN_FIGURES)
        if source is None or len(self._questions) > 0:
            return None
        sources = (*self._sources, source)
        if not are_sources(sources):
            raise NoSource("these are no sources")
        self._sources = sources
        return "ok"

    def _take_question(self, words):
        if len(words) < 3 or len(self._sources) == 0 or self._mill is not None:
            return None
        if not is_name(words[1]) or words[1] in self._questions:
            return None
        self._questions[words[1]] = read_question(self._sources, " ".join(words[2:]))
        return "ok"

    def _take_happening(self, words):
        happening = happening_in(words, MOST_PLAIN_FIGURES)
        if happening is None:
            return None
        # The first happening that isn't refused begins the stage in which there are a river and a mill.
        river = self._river_now()
        mill = Mill(self._sources, list(self._questions.values())) if self._mill is None else self._mill
        counted = river.take(happening)
        told = mill.take(happening)
        self._river, self._mill = river, mill
        if not counted:
            return "late"
        pieces = []
        for name, changes in zip(list(self._questions), told):
            pieces.extend([f"{name} {_row_words(moment, row)} {count:+d}" for moment, row, count in changes])
        return _listed(pieces)

    def _tell(self, word, name, words):
        """What is told of a question, None where the words behind its name are of no form."""
        question = self._questions[name]
        if word == "parted":
            return _parted(question, words) if len(words) > 0 else None
        if word in ("told", "kept", "plain"):
            return self._tell_all(word, name) if len(words) == 0 else None
        if word == "why":
            return self._why(question, words)
        if word in ("final", "lack", "fall"):
            where = _spot_in(question, words)
            return None if where is None else self._tell_of_spot(word, question, where)
        return None

    def _tell_all(self, word, name):
        question = self._questions[name]
        if word == "plain":
            return question_text(plain_form(self._sources, question.tree()))
        if word == "kept":
            return _letters_told(kept_of(question, self._river_now()))
        bag = self._mill.answers()[list(self._questions).index(name)] if self._mill is not None else {}
        return _listed([f"{_row_words(moment, row)} {count}" for moment, row, count in changes_of(bag)])

    def _why(self, question, words):
        where = _moment_and_row_in(words)
        if where is None:
            return None
        papers = papers_of(question, self._river_now().standing(), where[0], where[1])
        return _listed([paper_text(paper) for paper in papers])

    def _tell_of_spot(self, word, question, where):
        river = self._river_now()
        if word == "final":
            told = settled(question, river, where)
            return _listed([happening_row(happening) for happening in told[1]]) if told[0] == "may" else told[0]
        told = lacking(question, river, where) if word == "lack" else falling(question, river, where)
        return f"{told[0]} {_letters_told(told[1])}" if told[0] in ("come", "back") else told[0]

    def _river_now(self):
        return River(self._sources) if self._river is None else self._river


def _parted(question, words):
    letters = parted_by(question, tuple(words))
    return "parted" if letters is None else _letters_told(letters)


def _listed(pieces):
    return "; ".join(pieces) if len(pieces) > 0 else "none"


def _letters_told(letters):
    return _listed([letter_row(letter) for letter in letters])


def _row_words(moment, row):
    return " ".join([str(number) for number in (moment, *row)])


def _spot_in(question, words):
    """The spot that words tell, be it one of the question or not, None where they are of another form."""
    if question.tree()[0] != "fold":
        return _moment_and_row_in(words)
    if words[:1] != ["at"]:
        return None
    where = _moment_and_row_in(words[1:])
    return None if where is None else (where[1], where[0])


def _moment_and_row_in(words):
    """A moment and the numbers behind it, which may be below 0; None where words are of another form."""
    moments = numbers_in(words[:1], MOST_PLAIN_FIGURES)
    if not moments or not all([_is_number_told(word) for word in words[1:]]):
        return None
    return moments[0], tuple([int(word) for word in words[1:]])


def _is_number_told(word):
    """Whether a word is a number of those that rows told have, which may be below 0."""
    if word.startswith("-"):
        return word != "-0" and is_number(word[1:], MOST_PLAIN_FIGURES)
    return is_number(word, MOST_PLAIN_FIGURES)
