"""What can come to stand at the spots of a flat term, by ranges, conditions and like numbers, and by a river."""

from lateriver.plain import numbers_at, pair_places
from lateriver.sources import rows_of
from lateriver.terms import worth_of
from lateriver.trees import columns_of, parts_of, sources_asked

# So few pairs of choices are put together as they are, without looking at what they lack in common.
FEW_PAIRS = 16


class Flat:
    """A flat term: the rows that it can tell, and the rows of the terms in it that make each.

    Makers are, by each row that it can tell, the lists of (number of a part, row) that make it; users,
    by each (number of a part, row), the pairs of a row that is made with it and the list that makes that.
    """

    def __init__(self, sources, tree):
        self.term = tree
        self.names = sources_asked(tree)
        self.parts = [Flat(sources, part) for part in parts_of(tree)]
        self.makers = _makers_of(sources, tree, self.parts)
        self.users = _users_of(self.makers)

    def rows_with(self, places, numbers):
        """The rows that it can tell, with these numbers at these places."""
        return [row for row in self.makers if numbers_at(places, row) == numbers]

    def made_of(self, moment, row):
        """The lists of spots, as (number of the part, moment, row), that can make a spot."""
        makers = self.makers.get(row, [])
        if self.term[0] != "join":
            return [[(number, moment, part_row) for number, part_row in maker] for maker in makers]
        apart = _moments_joined(moment, self.term[4], self.term[5])
        return [[(0, one, maker[0][1]), (1, other, maker[1][1])] for maker in makers for one, other in apart]


class Just:
    """What stands in a river's place for an outlook to which just these letters are open."""

    def __init__(self, letters):
        self._letters = letters

    def is_open(self, letter):
        """Whether the letter is one of these."""
        return letter in self._letters


class Outlook:
    """What may yet stand at a flat term's spots, by what is open in a river and by a dict of what stands.

    A choice at a spot is the rising tuple of the open letters of a way in which the spot can stand,
    where all closed letters of that way stand. Of choices that are alike to whatever the term stands
    in just one is told, of those that lack the fewest letters, and of these the least ones. Alike are
    choices that both have letters, or both have none, and that lack the same letters of the sources
    apart. Where these are None, choices are told for whether there are any, and may lack more letters
    than others. Where most is told, choices that lack more letters are left out.
    """

    def __init__(self, flat, river, standing, apart, most=None):
        self.flat = flat
        self._river = river
        self._standing = standing
        self._apart = apart
        self._most = most
        self.parts = [
            Outlook(part, river, standing, _apart_within(flat, number, apart), most)
            for number, part in enumerate(flat.parts)
        ]
        self._known = {}

    def choices(self, moment, row):
        """The choices at a spot, none where it can never stand."""
        if (moment, row) not in self._known:
            self._known[(moment, row)] = self._unlike(self._choices_at(moment, row))
        return list(self._known[(moment, row)])

    def has_more_at(self, spots):
        """Whether one of the spots has a choice with open letters."""
        for moment, row in spots:
            if any([len(choice) > 0 for choice in self.choices(moment, row)]):
                return True
        return False

    def lacked(self, choice):
        """The letters of a choice that don't stand."""
        return [letter for letter in choice if letter not in self._standing]

    def _choices_at(self, moment, row):
        if self.flat.term[0] == "source":
            return self._choices_of_letter((self.flat.term[1], moment, row))
        found = []
        for spots in self.flat.made_of(moment, row):
            number, part_moment, part_row = spots[0]
            choices = self.parts[number].choices(part_moment, part_row)
            if len(spots) > 1 and len(choices) > 0:
                number, part_moment, part_row = spots[1]
                choices = self._all_put_together(choices, self.parts[number].choices(part_moment, part_row))
            found.extend(choices)
        return found

    def _all_put_together(self, ones, others):
        """Each two of these choices put together, but for such two as lack too many letters together."""
        if self._most is None or len(ones) * len(others) < FEW_PAIRS:
            return [put_together(one, other) for one in ones for other in others]
        with_many = [(other, self.lacked(other)) for other in others]
        by_letter = {}
        for other, lacked in with_many:
            for letter in lacked:
                by_letter.setdefault(letter, []).append((other, lacked))
        found = []
        for one in ones:
            lacked_by_one = self.lacked(one)
            room = self._most - len(lacked_by_one)
            found.extend([put_together(one, other) for other, lacked in with_many if len(lacked) <= room])
            # Where there is no room for all that both lack, they must lack some letter in common.
            for letter in lacked_by_one:
                near = by_letter.get(letter, [])
                found.extend([put_together(one, other) for other, lacked in near if len(lacked) > room])
        return found

    def _choices_of_letter(self, letter):
        if letter[2] not in self.flat.makers:
            return []
        if self._river.is_open(letter):
            return [(letter,)]
        return [()] if letter in self._standing else []

    def _unlike(self, choices):
        found = {}
        for choice in choices:
            lacked = self.lacked(choice)
            if self._most is not None and len(lacked) > self._most:
                continue
            apart = [letter for letter in lacked if letter[0] in self._apart] if self._apart is not None else []
            key = (len(choice) > 0, tuple(apart))
            if key not in found or (len(lacked), lacked, choice) < found[key]:
                found[key] = (len(lacked), lacked, choice)
        return [choice for _, _, choice in found.values()]


def all_ways(flat, river, spots):
    """The rising list of the unlike ways, of letters alone that are open, in which one of the spots can stand."""
    # Where nothing stands each way is a choice; all sources apart, no two are alike.
    outlook = Outlook(flat, river, {}, flat.names)
    return sorted({choice for moment, row in spots for choice in outlook.choices(moment, row)})


def _apart_within(flat, number, apart):
    """The sources apart in the part of that number: what a join puts it together with may have letters in common."""
    if apart is None or flat.term[0] != "join":
        return apart
    return apart + flat.parts[1 - number].names


def put_together(one, other):
    """The rising tuple of the unlike letters of two choices."""
    if len(one) == 0:
        return other
    return tuple(sorted(set(one + other)))


def _makers_of(sources, tree, parts):
    """By each row that a term can tell the lists of (number of a part, row) that make it."""
    if tree[0] == "source":
        return {row: [[]] for row in rows_of(sources, tree[1])}
    columns = [columns_of(sources, part) for part in parts_of(tree)]
    if tree[0] == "join":
        return _makers_of_join(tree, columns, parts)
    found = {}
    for number, part in enumerate(parts):
        for row in part.makers:
            for told in _rows_told(tree, columns[number], row):
                found.setdefault(told, []).append([(number, row)])
    return found


def _users_of(makers):
    """By each (number of a part, row) the pairs of a row that is made with it and the list that makes it."""
    found = {}
    for told, lists in makers.items():
        for maker in lists:
            for number, row in maker:
                found.setdefault((number, row), []).append((told, maker))
    return found


def _rows_told(tree, columns, row):
    """The row that a keep, a shape or a both tells of a row; none where a keep leaves it out."""
    if tree[0] == "keep":
        return [row] if worth_of(tree[2], columns, row) else []
    if tree[0] == "shape":
        return [tuple([worth_of(reckoning, columns, row) for _, reckoning in tree[2]])]
    return [row]


def _makers_of_join(tree, columns, parts):
    places, others_places = pair_places(tree[3], columns)
    partners = {}
    for row in parts[1].makers:
        partners.setdefault(numbers_at(others_places, row), []).append(row)
    found = {}
    for row in parts[0].makers:
        for other in partners.get(numbers_at(places, row), []):
            found[row + other] = [[(0, row), (1, other)]]
    return found


def _moments_joined(moment, low, high):
    """The pairs of moments, the greater one the one told, of which the second less the first is from low to high."""
    found = [(moment, other) for other in range(max(0, moment + low), min(moment, moment + high) + 1)]
    return found + [(one, moment) for one in range(max(0, moment - high), min(moment - 1, moment - low) + 1)]
