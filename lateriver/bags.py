"""Bags, their sums and their differences: point 41 of the document."""


def bag_of(pairs):
    """The bag of a list of pairs (moment, row), each counted as often as it stands there."""
    return summed([(moment, row, 1) for moment, row in pairs])


def added(one, other):
    """The sum of two bags."""
    return summed(changes_of(one) + changes_of(other))


def less(one, other):
    """What one bag has beyond the other one, below 0 where it has less."""
    return summed(changes_of(one) + [(moment, row, -count) for moment, row, count in changes_of(other)])


def changes_of(bag):
    """The rising list of (moment, row, count) of a bag."""
    return sorted([(moment, row, count) for (moment, row), count in bag.items()])


def summed(changes):
    """The bag of the sum of changes, in whatever order they stand."""
    bag = {}
    for moment, row, count in changes:
        bag[(moment, row)] = bag.get((moment, row), 0) + count
    return {pair: count for pair, count in bag.items() if count != 0}
