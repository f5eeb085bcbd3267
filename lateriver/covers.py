"""The fewest letters that must go so that of each of some groups one does, letters counting as often as they stand.

Groups of letters are whole numbers here, each letter a bit in them, so that they can be told apart quickly.
"""


def least_cover(groups, counts):
    """The letters of which each group has one, rising: the fewest by their counts, of those the least tuple.

    Groups are lists of letters, each with one at least; counts tell of each letter how often it stands.
    """
    letters = sorted({letter for group in groups for letter in group})
    bits = {letter: 1 << at for at, letter in enumerate(letters)}
    cover = Cover({bits[letter]: counts[letter] for letter in letters})
    open_groups = _needed([sum([bits[letter] for letter in group]) for group in groups])
    most = cover.least(open_groups, sum([counts[letter] for letter in letters]))
    chosen = []
    # Each letter that some least cover has beside those chosen is chosen, so none is less.
    for letter in letters:
        rest = _without(open_groups, bits[letter])
        if len(rest) < len(open_groups) and cover.least(rest, most - counts[letter]) is not None:
            chosen.append(letter)
            open_groups = rest
            most -= counts[letter]
    return tuple(chosen)


class Cover:
    """What looks for the least that covers groups, and keeps what it found."""

    def __init__(self, counts):
        self._counts = counts
        # By groups the least that covers them, or None and what it is known to be above.
        self._known = {}

    def least(self, groups, most):
        """The least sum of counts of letters of which each group has one, None where it is above most."""
        if len(groups) == 0:
            return 0 if most >= 0 else None
        if self._at_least(groups) > most:
            return None
        key = tuple(sorted(groups))
        if key not in self._known or (self._known[key][0] is None and self._known[key][1] < most):
            self._known[key] = (self._least_apart(groups, most), most)
        least = self._known[key][0]
        return least if least is not None and least <= most else None

    def _least_apart(self, groups, most):
        apart = _apart(groups)
        if len(apart) == 1:
            return self._least_by_letter(groups, most)
        total = 0
        for some in apart:
            least = self.least(some, most - total)
            if least is None:
                return None
            total += least
        return total

    def _least_by_letter(self, groups, most):
        """The least with a letter that many groups have, or without it."""
        letter = self._busiest(groups)
        count = self._counts[letter]
        with_it = self.least(_without(groups, letter), most - count)
        if with_it is not None:
            most = with_it + count - 1
        others = [group & ~letter for group in groups]
        without_it = self.least(_needed(others), most) if 0 not in others else None
        if without_it is not None:
            return without_it
        return with_it + count if with_it is not None else None

    def _busiest(self, groups):
        """The letter that the most groups have for its count."""
        best = None
        for letter, many in _busy(groups).items():
            if best is None or many * self._counts[best[1]] > best[0] * self._counts[letter]:
                best = (many, letter)
        return best[1]

    def _at_least(self, groups):
        """A sum that no cover is below: each group takes from its letters as much as all of them have left."""
        left = {}
        total = 0
        for group in groups:
            letters = _letters_in(group)
            least = min([left.get(letter, self._counts[letter]) for letter in letters])
            for letter in letters:
                left[letter] = left.get(letter, self._counts[letter]) - least
            total += least
        return total


def _letters_in(group):
    found = []
    while group > 0:
        letter = group & -group
        found.append(letter)
        group ^= letter
    return found


def _busy(groups):
    """How many groups have each letter."""
    found = {}
    for group in groups:
        for letter in _letters_in(group):
            found[letter] = found.get(letter, 0) + 1
    return found


def _without(groups, letter):
    """The groups that don't have a letter."""
    return [group for group in groups if group & letter == 0]


def _needed(groups):
    """The unlike groups in which no other one stands whole, rising: what covers these covers all."""
    found = {}
    for group in sorted(set(groups)):
        if not any([part in found for part in _parts_of(group)]):
            found[group] = True
    return list(found)


def _parts_of(group):
    """All that can be made of the letters of a group, itself too."""
    parts = [0]
    for letter in _letters_in(group):
        parts = parts + [part | letter for part in parts]
    return parts


def _apart(groups):
    """Lists of the groups, such that no two of unlike lists have a letter in common."""
    found = []
    for group in groups:
        letters, together = group, [group]
        rest = []
        for other_letters, others in found:
            if other_letters & letters:
                letters |= other_letters
                together = together + others
            else:
                rest.append((other_letters, others))
        found = rest + [(letters, together)]
    return [together for _, together in found]
