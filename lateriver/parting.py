"""Keys by which questions are parted, and mills for the parts: point 141 of the document."""

from lateriver.bags import added
from lateriver.errors import NoKey, NoLetter, NoQuestion
from lateriver.mills import Mill
from lateriver.mixing import letters_mixed, places_of
from lateriver.names import is_whole
from lateriver.rivers import is_happening_of
from lateriver.sources import HIGHEST_TOP, fields_of, names_of, tops_of


def parted_by(question, key):
    """None where a question is parted by a key, else letters that are answered otherwise than their parts in sum."""
    _refuse_other_sorts(question)
    if not _is_key(question.sources(), key):
        raise NoKey("this is no key of the question's sources")
    return letters_mixed(question, key)


def keys_of(question):
    """The rising list of all keys by which a question is parted."""
    _refuse_other_sorts(question)
    sources = question.sources()
    keys = [()]
    for name in names_of(sources):
        keys = [(*key, column) for key in keys for column in fields_of(sources, name)]
    return [key for key in sorted(keys) if letters_mixed(question, key) is None]


class Parts:
    """Mills of the same questions, each for the letters of one part, that tell together what one mill tells."""

    def __init__(self, sources, questions, key):
        self._mills = [Mill(sources, questions) for _ in range(HIGHEST_TOP + 1)]
        for question in questions:
            _refuse_other_sorts(question)
        if not _is_key(sources, key):
            raise NoKey("this is no key of the sources")
        for question in questions:
            if letters_mixed(question, key) is not None:
                raise NoKey("a question is not parted by this key")
        self._tops = tops_of(sources)
        self._places = places_of(sources, key)

    def take(self, happening):
        """The list of each question's changes."""
        if not is_happening_of(self._tops, happening):
            raise NoLetter("this is no happening of these sources")
        if happening[0] in ("letter", "back"):
            name, _, row = happening[1]
            return self._mills[row[self._places[name]]].take(happening)
        # All marks and ends are alike in each mill, so that the first one refuses what any does.
        return [mill.take(happening) for mill in self._mills][0]

    def answers(self):
        """The list of the questions' bags, in sum."""
        found = self._mills[0].answers()
        for mill in self._mills[1:]:
            found = [added(one, other) for one, other in zip(found, mill.answers())]
        return found

    def part(self, number):
        """A twin of a part's river."""
        if not is_whole(number) or not 0 <= number <= HIGHEST_TOP:
            raise NoKey("this is no part's number")
        return self._mills[number].river()


def _refuse_other_sorts(question):
    if not question.is_flat() and question.tree()[0] not in ("alone", "fold"):
        raise NoQuestion("this question is neither flat nor an alone nor a fold")


def _is_key(sources, thing):
    """Whether a thing is a tuple of a column's name for each source."""
    if not isinstance(thing, tuple) or len(thing) != len(sources):
        return False
    for column, name in zip(thing, names_of(sources)):
        if not isinstance(column, str) or column not in fields_of(sources, name):
            return False
    return True
