"""Whether letters of unlike parts count together in a question, and which ones: of point 141 of the document.

What counts is sums of products of counts, so it is enough to look at letters that stand once each.
"""

from lateriver.finals import flat_of
from lateriver.outlooks import Flat, Outlook, put_together
from lateriver.plain import numbers_at, pair_places, told_of
from lateriver.rivers import River
from lateriver.sources import fields_of
from lateriver.trees import columns_of, parts_of, terms_of

# In a part's place, of letters of more than one part: no part has this number.
MIXED = 6


def places_of(sources, key):
    """By each source the place of the key's column in its rows: the number there is a letter's part."""
    return {name: fields_of(sources, name).index(column) for (name, _), column in zip(sources, key)}


def letters_mixed(question, key):
    """Letters, rising, that a question answers otherwise than their parts in sum, None where there are none.

    The question is flat, an alone or a fold.
    """
    tree = question.tree()
    if tree[0] == "alone":
        return AloneParts(question, key).some_letters()
    ways = _ways_by_part(flat_of(question), places_of(question.sources(), key))
    if tree[0] != "fold":
        mixed = [by_part[MIXED] for by_part in ways.values() if MIXED in by_part]
        return _from_moment_0(mixed[0], 1) if len(mixed) > 0 else None
    columns = columns_of(question.sources(), tree[1])
    together = {}
    for row, by_part in ways.items():
        numbers = numbers_at([columns.index(name) for name in tree[2]], row)
        together.setdefault(numbers, {}).update(by_part)
    for by_part in together.values():
        # Rows of like keys at one moment are in one window, whichever letters of however many parts brought them.
        if MIXED in by_part or len(by_part) > 1:
            some = list(by_part.values())[:2]
            return _from_moment_0(by_part.get(MIXED) or put_together(some[0], some[1]), tree[3][-1])
    return None


class AloneParts:
    """What tells of an alone whether letters of one part bar, or make, what those of another one don't."""

    def __init__(self, question, key):
        self._sources, self._tree = question.sources(), question.tree()
        self._places = places_of(self._sources, key)
        first, second = parts_of(self._tree)
        self._flats = [Flat(self._sources, first), Flat(self._sources, second)]
        river = River(self._sources)
        self._outlooks = [Outlook(flat, river, {}, flat.names) for flat in self._flats]
        self._pairs = pair_places(self._tree[3], [columns_of(self._sources, part) for part in (first, second)])
        self._parts_of_others = _ways_by_part(self._flats[1], self._places)
        # So late that no way of any row is cut off by moment 0.
        joins = [term for term in terms_of(self._tree) if term[0] in ("join", "alone")]
        self._moment = sum([abs(join[4]) + abs(join[5]) for join in joins])
        self._known = {}

    def some_letters(self):
        """Letters, rising, that the alone answers otherwise than their parts in sum, None where there are none."""
        for row in self._flats[0].makers:
            for way in self._outlooks[0].choices(self._moment, row):
                letters = self._letters_beside(row, way)
                if letters is not None:
                    return _from_moment_0(letters, 1)
        return None

    def _letters_beside(self, row, way):
        """Such letters, a way of a row of Q among them, None where there are none."""
        if self._is_barred(row, way):
            return None
        part = _part_of_all(self._places, way)
        if part == MIXED:
            return way
        for other in self._partners(row, part):
            for beside in self._ways_not_of(other, part):
                # A partner that stands bars the row but in its own part, where it doesn't stand.
                near = tuple([letter for letter in beside if letter[2][self._places[letter[0]]] == part])
                if not self._is_barred(row, put_together(way, near)):
                    return put_together(way, beside)
        return None

    def _partners(self, row, part):
        """The rows of R with numbers like a row's that have ways of other letters than a part's."""
        numbers = numbers_at(self._pairs[0], row)
        rows = self._flats[1].rows_with(self._pairs[1], numbers)
        return [other for other in rows if list(self._parts_of_others[other]) != [part]]

    def _ways_not_of(self, row, part):
        """The ways of a row of R, at each moment at which it is a partner, not all of whose letters are of a part."""
        ways = []
        for moment in range(self._moment + self._tree[4], self._moment + self._tree[5] + 1):
            ways.extend(self._outlooks[1].choices(moment, row))
        return [way for way in ways if _part_of_all(self._places, way) != part]

    def _is_barred(self, row, letters):
        """Whether a partner of a row stands where these letters do."""
        if (row, letters) not in self._known:
            self._known[(row, letters)] = self._look_for_partner(row, letters)
        return self._known[(row, letters)]

    def _look_for_partner(self, row, letters):
        numbers = numbers_at(self._pairs[0], row)
        for moment, other in told_of(self._sources, self._tree[2], {letter: 1 for letter in letters}):
            near = self._tree[4] <= moment - self._moment <= self._tree[5]
            if near and numbers_at(self._pairs[1], other) == numbers:
                return True
        return False


def _part_of_all(places, letters):
    """The part of all these letters, MIXED where they are of more than one."""
    parts = [letter[2][places[letter[0]]] for letter in letters]
    return parts[0] if parts == [parts[0]] * len(parts) else MIXED


def _ways_by_part(flat, places):
    """By each row of a flat term, and by each part or MIXED, a way in which it can stand at moment 0.

    The moments in ways are no greater than 0; by ranges, conditions and like numbers they may be so.
    """
    name = flat.term[1]
    if flat.term[0] == "source":
        return {row: {row[places[name]]: ((name, 0, row),)} for row in flat.makers}
    within = [_ways_by_part(part, places) for part in flat.parts]
    found = {}
    for row, makers in flat.makers.items():
        found[row] = {}
        for maker in makers:
            by_parts = [within[number][part_row] for number, part_row in maker]
            made = by_parts[0] if len(by_parts) == 1 else _joined_by_part(flat.term, by_parts)
            for part, way in made.items():
                found[row].setdefault(part, way)
    return found


def _joined_by_part(term, by_parts):
    # As far apart as the join's low tells, the later one at moment 0.
    first, second = min(0, -term[4]), min(0, term[4])
    found = {}
    for part, way in by_parts[0].items():
        for other, other_way in by_parts[1].items():
            together = put_together(_later(way, first), _later(other_way, second))
            found.setdefault(part if part == other else MIXED, together)
    return found


def _later(letters, far):
    return tuple([(name, moment + far, row) for name, moment, row in letters])


def _from_moment_0(letters, step):
    """The rising list of the letters, later or earlier by a multiple of step, so that none is ahead of moment 0."""
    first = min([moment for _, moment, _ in letters])
    return sorted(_later(letters, -(first // step) * step))
