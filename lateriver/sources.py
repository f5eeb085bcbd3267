"""Sources, their rows, and their letters: point 11 of the document."""

from lateriver.errors import NoSource
from lateriver.names import is_name, is_whole

MOST_SOURCES = 3
MOST_COLUMNS = 3
HIGHEST_TOP = 5


def are_sources(thing):
    """True or False, of anything."""
    if not _are_named_pairs(thing, MOST_SOURCES):
        return False
    return all([_are_columns(columns) for _, columns in thing])


def names_of(sources):
    """The sources' names, in order."""
    _refuse_no_sources(sources)
    return [name for name, _ in sources]


def fields_of(sources, name):
    """The names of a source's columns, in order."""
    return [field for field, _ in _columns_of(sources, name)]


def rows_of(sources, name):
    """All rows of a source, rising."""
    rows = [()]
    for _, top in _columns_of(sources, name):
        rows = [row + (number,) for row in rows for number in range(top + 1)]
    return rows


def is_letter(sources, thing):
    """True of a letter of one of the sources, False of anything else."""
    return is_letter_of(tops_of(sources), thing)


def tops_of(sources):
    """By each source's name its columns' tops, in order: what is_letter_of asks of sources, looked at once."""
    _refuse_no_sources(sources)
    return {name: [top for _, top in columns] for name, columns in sources}


def is_letter_of(tops, thing):
    """True of a letter of one of the sources with these tops, False of anything else."""
    if not isinstance(thing, tuple) or len(thing) != 3:
        return False
    name, moment, row = thing
    if not isinstance(name, str) or name not in tops:
        return False
    return is_whole(moment) and moment >= 0 and _is_row(tops[name], row)


def _are_named_pairs(thing, most):
    """Whether a thing is a tuple of 1 to so many pairs, each begun by a name that no other one has."""
    if not isinstance(thing, tuple) or not 1 <= len(thing) <= most:
        return False
    for pair in thing:
        if not isinstance(pair, tuple) or len(pair) != 2 or not is_name(pair[0]):
            return False
    return len({pair[0] for pair in thing}) == len(thing)


def _are_columns(thing):
    if not _are_named_pairs(thing, MOST_COLUMNS):
        return False
    return all([_is_number_to(top, HIGHEST_TOP) for _, top in thing])


def _is_number_to(thing, top):
    return is_whole(thing) and 0 <= thing <= top


def _refuse_no_sources(sources):
    if not are_sources(sources):
        raise NoSource("these are no sources")


def _columns_of(sources, name):
    _refuse_no_sources(sources)
    if isinstance(name, str):
        for source, columns in sources:
            if source == name:
                return columns
    raise NoSource("this is no name of a source")


def _is_row(tops, thing):
    if not isinstance(thing, tuple) or len(thing) != len(tops):
        return False
    return all([_is_number_to(number, top) for number, top in zip(thing, tops)])
