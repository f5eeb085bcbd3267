"""Which closed letters must be kept, for what may yet come: point 101 of the document."""

from lateriver.errors import NoLetter
from lateriver.finals import flat_of, refuse_unlike_windows, spots_in_window
from lateriver.outlooks import Outlook, put_together
from lateriver.plain import begins_with, numbers_at
from lateriver.rivers import River
from lateriver.sources import is_letter, names_of
from lateriver.trees import columns_of


def asked_for(question, river, letter):
    """None, or a further row with a happening whose change is another one than without the closed letter."""
    refuse_unlike_windows(question, river)
    if not is_letter(river.sources(), letter) or letter not in river.standing() or river.is_open(letter):
        raise NoLetter("this letter does not stand closed")
    return Asker(question, river).row_for(letter)


def kept_of(question, river):
    """The rising list of the closed letters that are asked for, and of all open ones that stand."""
    refuse_unlike_windows(question, river)
    asker = Asker(question, river)
    return [letter for letter in river.standing() if river.is_open(letter) or asker.row_for(letter) is not None]


def lessened(question, river):
    """A river of the letters that must be kept alone, marks and ends as they are."""
    return river_of_kept(river, kept_of(question, river))


def river_of_kept(river, kept):
    """A river in which just these of the letters that stand do so, marks and ends as they are."""
    other = River(river.sources())
    for letter, count in river.standing().items():
        if letter in kept:
            for _ in range(count):
                other.take(("letter", letter))
    for name in names_of(river.sources()):
        if river.mark(name) is None:
            other.take(("end", name))
        elif river.mark(name) > 0:
            other.take(("mark", name, river.mark(name)))
    return other


class Asker:
    """What tells of the closed letters of a river for what further rows they are asked.

    All that counts is sums of products: a further row can ask for a letter just where the letter can
    count together with an open one, in one row of a flat question, or in one window of a fold.
    """

    def __init__(self, question, river):
        self._question = question
        self._outlook = Outlook(flat_of(question), river, river.standing(), None)
        self._known = {}

    def row_for(self, letter):
        """A further row that asks for a closed letter, None where there is none."""
        for (moment, row), choices in _choices_with(self._outlook, letter).items():
            choice = self._choice_at(moment, row, choices)
            if choice is not None:
                # What it lacks comes once each; where all stands, one more of any open letter is enough.
                return [("letter", other) for other in self._outlook.lacked(choice) or choice[:1]]
        return None

    def _choice_at(self, moment, row, choices):
        """Of a spot that the letter can bring open letters beside which it counts, None where there are none."""
        if self._question.is_flat():
            return choices.get(True)
        window = self._question.tree()[3]
        for begin in begins_with(window, moment):
            # Where no way with the letter has open ones, it counts as all stands.
            choice = choices.get(True) or self._open_choice_in((self._keys_of(row), begin))
            if choice is not None:
                return choice
        return None

    def _keys_of(self, row):
        tree = self._question.tree()
        columns = columns_of(self._question.sources(), tree[1])
        return numbers_at([columns.index(key) for key in tree[2]], row)

    def _open_choice_in(self, where):
        """A choice with open letters of what can count at a fold's spot, None where there is none."""
        if where not in self._known:
            self._known[where] = self._look_for_open_choice(where)
        return self._known[where]

    def _look_for_open_choice(self, where):
        for moment, row in spots_in_window(self._question, self._outlook.flat, where):
            for choice in self._outlook.choices(moment, row):
                if len(choice) > 0:
                    return choice
        return None


def _choices_with(outlook, letter):
    """By each spot that a closed letter can bring: of the ways with it a choice with open letters, and one without.

    They are told by whether they have open letters.
    """
    term = outlook.flat.term
    if term[0] == "source":
        return {letter[1:]: {False: ()}} if letter[0] == term[1] else {}
    found = {}
    for number, part in enumerate(outlook.parts):
        for (moment, row), choices in _choices_with(part, letter).items():
            for spot, others in _made_with(outlook, number, moment, row):
                beside = found.setdefault(spot, {})
                for one in choices.values():
                    for other in others:
                        together = put_together(one, other)
                        beside.setdefault(len(together) > 0, together)
    return found


def _made_with(outlook, number, moment, row):
    """The spots that a part's spot makes, each with the choices of what it is put together with."""
    term, users = outlook.flat.term, outlook.flat.users.get((number, row), [])
    if term[0] != "join":
        return [((moment, told), [()]) for told, _ in users]
    found = []
    for told, maker in users:
        for other in _partner_moments(term, number, moment):
            choices = outlook.parts[1 - number].choices(other, maker[1 - number][1])
            if len(choices) > 0:
                found.append(((max(moment, other), told), choices))
    return found


def _partner_moments(term, number, moment):
    """The moments from 0 on at which what is put together with one part's row at a moment can stand."""
    if number == 0:
        return list(range(max(0, moment + term[4]), moment + term[5] + 1))
    return list(range(max(0, moment - term[5]), moment - term[4] + 1))
