"""What questions' trees are and what stands in them: point 31 of the document."""

from lateriver.names import is_name, is_whole
from lateriver.sources import fields_of, names_of
from lateriver.terms import is_condition, is_reckoning

# How many things a term of each word has, its word among them; the questions in it stand first.
SIZES = {"source": 2, "keep": 3, "shape": 3, "both": 3, "join": 6, "alone": 6, "fold": 5}
MANY_PARTS = {"source": 0, "keep": 1, "shape": 1, "both": 2, "join": 2, "alone": 2, "fold": 1}
NEVER_FLAT = ("alone", "fold")
OF_FLAT_PARTS = ("join", "alone", "fold")
WINDOW_SIZES = {"pane": 2, "slide": 3, "visit": 2}
FOLDINGS = ("sum", "least", "most")


def parts_of(tree):
    """The trees that stand in a tree at once: none, Q, or Q and R."""
    return list(tree[1:1 + MANY_PARTS[tree[0]]])


def terms_of(tree):
    """All trees in a tree, itself first, each ahead of those in it, Q's ahead of R's."""
    found = []
    pending = [tree]
    while pending:
        term = pending.pop()
        found.append(term)
        pending.extend(parts_of(term)[::-1])
    return found


def sources_asked(tree):
    """The rising list of the names of the sources that stand in a tree."""
    return sorted({term[1] for term in terms_of(tree) if term[0] == "source"})


def columns_of(sources, tree):
    """The columns that a tree tells, in order."""
    found = []
    pending = [tree]
    while pending:
        term = pending.pop()
        word = term[0]
        if word == "source":
            found.extend(fields_of(sources, term[1]))
        elif word == "shape":
            found.extend([name for name, _ in term[2]])
        elif word == "fold":
            found.extend(fold_columns(term))
        elif word == "join":
            pending.extend([term[2], term[1]])
        else:
            pending.append(term[1])
    return found


def fold_columns(tree):
    """The columns that a fold tells, in order."""
    return [*tree[2], "begin", "behind", "many", *[name for name, _, _ in tree[4]]]


def is_flat_tree(tree):
    """Whether a tree is flat: of source, keep, shape, both and join alone."""
    return all([term[0] not in NEVER_FLAT for term in terms_of(tree)])


def is_tree(sources, thing, most, most_within):
    """Whether a thing is a question's tree of these sources.

    It may have so many terms in all and within one another, or any number where these are None.
    """
    found = []
    pending = [(thing, 1)]
    while pending:
        term, within = pending.pop()
        if len(found) == most or (most_within is not None and within > most_within) or not _is_headed(term):
            return False
        found.append(term)
        pending.extend([(part, within + 1) for part in parts_of(term)[::-1]])
    # What stands in a term is looked at ahead of it, Q's last; of each the columns are kept, and whether it is flat.
    known = []
    for term in reversed(found):
        parts = [known.pop() for _ in parts_of(term)]
        if not _is_well_made(sources, term, parts):
            return False
        flat = term[0] not in NEVER_FLAT and all([part_flat for _, part_flat in parts])
        known.append((columns_beyond(sources, term, [columns for columns, _ in parts]), flat))
    return True


def columns_beyond(sources, term, columns):
    """The columns that a term tells, by those of the terms that stand in it at once."""
    word = term[0]
    if word == "source":
        return fields_of(sources, term[1])
    if word == "shape":
        return [name for name, _ in term[2]]
    if word == "join":
        return columns[0] + columns[1]
    return fold_columns(term) if word == "fold" else columns[0]


def _is_headed(thing):
    """Whether a thing has a term's word and as many things as it, whatever they are."""
    if not isinstance(thing, tuple) or len(thing) == 0 or not isinstance(thing[0], str):
        return False
    return SIZES.get(thing[0]) == len(thing)


def _is_well_made(sources, term, parts):
    """Whether a term is one, the terms in it being so, whose columns are told, and whether they are flat."""
    word = term[0]
    if word == "source":
        return isinstance(term[1], str) and term[1] in names_of(sources)
    if word in OF_FLAT_PARTS and not all([flat for _, flat in parts]):
        return False
    columns = [told for told, _ in parts]
    if word == "keep":
        return is_condition(term[2], columns[0])
    if word == "shape":
        return _are_shapings(term[2], columns[0])
    if word == "both":
        return columns[0] == columns[1]
    if word == "fold":
        return _is_folding(term, columns[0])
    if word == "join" and not _are_unlike(columns[0] + columns[1]):
        return False
    return _are_partners(term, columns)


def _are_shapings(thing, columns):
    if not isinstance(thing, tuple) or len(thing) == 0:
        return False
    for pair in thing:
        if not isinstance(pair, tuple) or len(pair) != 2:
            return False
        if not is_name(pair[0]) or not is_reckoning(pair[1], columns):
            return False
    return _are_unlike([name for name, _ in thing])


def _are_partners(term, columns):
    """Whether a join, or an alone, tells pairs of columns and how far apart moments are."""
    _, _, _, pairs, low, high = term
    if not isinstance(pairs, tuple):
        return False
    for pair in pairs:
        if not isinstance(pair, tuple) or len(pair) != 2:
            return False
        if not _is_column(pair[0], columns[0]) or not _is_column(pair[1], columns[1]):
            return False
    return is_whole(low) and is_whole(high) and low <= high


def _is_folding(term, columns):
    _, _, keys, window, sums = term
    if not isinstance(keys, tuple) or not all([_is_column(key, columns) for key in keys]):
        return False
    if not _is_window(window) or not isinstance(sums, tuple):
        return False
    for part in sums:
        if not isinstance(part, tuple) or len(part) != 3 or not is_name(part[0]):
            return False
        if not isinstance(part[1], str) or part[1] not in FOLDINGS or not _is_column(part[2], columns):
            return False
    return _are_unlike(fold_columns(term))


def _is_window(thing):
    if not isinstance(thing, tuple) or len(thing) == 0 or not isinstance(thing[0], str):
        return False
    if WINDOW_SIZES.get(thing[0]) != len(thing):
        return False
    return all([is_whole(number) and number >= 1 for number in thing[1:]])


def _is_column(thing, columns):
    return isinstance(thing, str) and thing in columns


def _are_unlike(names):
    return len(set(names)) == len(names)
