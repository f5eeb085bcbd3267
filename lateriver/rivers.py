"""Happenings, and the letters that stand behind them: point 61 of the document."""

from lateriver.errors import NoLetter, NoMark, NoSource
from lateriver.names import is_whole
from lateriver.sources import is_letter_of, tops_of


class River:
    """What stands behind a row of happenings, what came late, and what is closed."""

    def __init__(self, sources):
        # Asking for the tops refuses what are no sources, and looks at them once for all happenings.
        self._tops = tops_of(sources)
        self._marks = {name: 0 for name in self._tops}
        self._sources = sources
        self._counts = {}
        self._late = []
        self._happened = []

    def take(self, happening):
        """True, or False of a letter that is late."""
        if not is_happening_of(self._tops, happening):
            raise NoLetter("this is no happening of these sources")
        word = happening[0]
        counted = True
        if word == "letter":
            counted = self._take_letter(happening[1])
        elif word == "back":
            self._take_back(happening[1])
        elif word == "mark":
            self._take_mark(happening[1], happening[2])
        else:
            self._refuse_ended(happening[1])
            self._marks[happening[1]] = None
        self._happened.append(happening)
        return counted

    def standing(self):
        """The counts of the letters that stand, rising."""
        return {letter: self._counts[letter] for letter in sorted(self._counts)}

    def late(self):
        """The letters that came late, as they came."""
        return list(self._late)

    def mark(self, name):
        """The mark of a source, None where it has ended."""
        if not isinstance(name, str) or name not in self._marks:
            raise NoSource("this is no name of a source")
        return self._marks[name]

    def is_open(self, letter):
        """Whether a letter, or its being taken back, may yet come in time."""
        mark = self._marks[letter[0]]
        return mark is not None and letter[1] >= mark

    def sources(self):
        """The sources of which the river is."""
        return self._sources

    def twin(self):
        """Another river alike, apart from this one."""
        other = River(self._sources)
        other._marks = {name: self._marks[name] for name in self._marks}
        other._counts = {letter: self._counts[letter] for letter in self._counts}
        other._late = list(self._late)
        other._happened = list(self._happened)
        return other

    def happened(self):
        """All that was taken, late letters too, as it came."""
        return list(self._happened)

    def _take_letter(self, letter):
        if not self.is_open(letter):
            self._late.append(letter)
            return False
        self._counts[letter] = self._counts.get(letter, 0) + 1
        return True

    def _take_back(self, letter):
        if not self.is_open(letter) or letter not in self._counts:
            raise NoLetter("this letter cannot be taken back")
        self._counts[letter] -= 1
        if self._counts[letter] == 0:
            del self._counts[letter]

    def _take_mark(self, name, moment):
        self._refuse_ended(name)
        if moment <= self._marks[name]:
            raise NoMark("this mark is not above the source's")
        self._marks[name] = moment

    def _refuse_ended(self, name):
        if self._marks[name] is None:
            raise NoMark("this source has ended")


def is_happening(sources, thing):
    """True of a happening of these sources, False of anything else."""
    return is_happening_of(tops_of(sources), thing)


def is_happening_of(tops, thing):
    """True of a happening of the sources with these tops, False of anything else."""
    if not isinstance(thing, tuple) or len(thing) == 0 or not isinstance(thing[0], str):
        return False
    if thing[0] in ("letter", "back"):
        return len(thing) == 2 and is_letter_of(tops, thing[1])
    if thing[0] == "mark":
        return len(thing) == 3 and _is_name_in(tops, thing[1]) and is_whole(thing[2]) and thing[2] >= 0
    return thing[0] == "end" and len(thing) == 2 and _is_name_in(tops, thing[1])


def _is_name_in(tops, thing):
    return isinstance(thing, str) and thing in tops
