"""What is final, and what may yet change and by what: point 91 of the document."""

from lateriver.errors import NoQuestion, NoSpot
from lateriver.outlooks import Flat, Outlook, all_ways
from lateriver.plain import answer_of, begins_with, folded_rows, is_spot, numbers_at, pair_places, spot_of, told_of
from lateriver.rivers import River
from lateriver.trees import columns_of, parts_of, sources_asked


def ways_of(question, where):
    """The rising list of the unlike ways in which a flat question's spot can stand, by the ranges alone."""
    if not question.is_flat():
        raise NoQuestion("this question is not flat")
    refuse_no_spot(question, where)
    sources = question.sources()
    return all_ways(Flat(sources, question.tree()), River(sources), [where])


def settled(question, river, where):
    """("final",) of a spot that no further row changes, else ("may", a further row that does)."""
    tree = question.tree()
    if not question.is_flat() and tree[0] not in ("alone", "fold"):
        raise NoQuestion("this question is neither flat nor an alone nor a fold")
    refuse_other_sources(question, river)
    refuse_no_spot(question, where)
    if tree[0] == "alone":
        row = _row_for_alone(question, river, where)
    elif tree[0] == "fold" and tree[3][0] == "visit":
        row = _row_for_visit(question, river, where)
    else:
        flat = flat_of(question)
        row = _row_to_more(flat, river, spots_for(question, flat, where))
    return ("final",) if row is None else ("may", row)


def open_spots(question, river):
    """The rising list of the spots of a fold of panes, or slides, that stand and aren't final."""
    tree = question.tree()
    if not is_fold_of_windows(question):
        raise NoQuestion("this question is no fold of panes or slides")
    refuse_other_sources(question, river)
    flat, letters = flat_of(question), river.standing()
    outlook = Outlook(flat, river, letters, None)
    stand = folded_rows(tree, answer_of(question, letters))
    return sorted([where for where in stand if outlook.has_more_at(spots_in_window(question, flat, where))])


def is_fold_of_windows(question):
    """Whether a question is a fold of panes, or of slides."""
    tree = question.tree()
    return tree[0] == "fold" and tree[3][0] != "visit"


def refuse_unlike_windows(question, river):
    """NoQuestion of questions that are neither flat nor folds of panes or slides, and of other sources."""
    if not question.is_flat() and not is_fold_of_windows(question):
        raise NoQuestion("this question is neither flat nor a fold of panes or slides")
    refuse_other_sources(question, river)


def flat_of(question):
    """The flat term of a flat question, or of the Q of an alone or a fold."""
    tree = question.tree()
    return Flat(question.sources(), tree if question.is_flat() else tree[1])


def spots_for(question, flat, where):
    """The spots of the flat term that count at a spot of a flat question, or of a fold of panes or slides."""
    return spots_in_window(question, flat, where) if question.tree()[0] == "fold" else [where]


def refuse_other_sources(question, river):
    """NoQuestion where the sources aren't the river's."""
    if question.sources() != river.sources():
        raise NoQuestion("this question is of other sources than the river")


def refuse_no_spot(question, where):
    """NoSpot where this is no spot of the question."""
    if not is_spot(question, where):
        raise NoSpot("this is no spot of the question")


def _row_to_more(flat, river, spots):
    """A shortest further row behind which one of the spots of a flat term has more, None where there is none."""
    most, standing = 0, river.standing()
    if not Outlook(flat, river, standing, None).has_more_at(spots):
        return None
    while True:
        # As long as none is short enough few choices are looked at.
        most += 1
        outlook = Outlook(flat, river, standing, [], most)
        for moment, row in spots:
            for choice in outlook.choices(moment, row):
                if len(choice) > 0:
                    # Where all of them stand, one more of any of them is enough.
                    return [("letter", letter) for letter in outlook.lacked(choice) or choice[:1]]


def spots_in_window(question, flat, where):
    """The spots of a fold's Q that count in the pane, or slide, of a spot; none where no window begins there."""
    _, _, keys, window, _ = question.tree()
    numbers, begin = where
    if begin not in begins_with(window, begin):
        return []
    return _spots_between(flat, _places_of(question, keys), numbers, begin, begin + window[1] - 1)


def _places_of(question, keys):
    columns = columns_of(question.sources(), question.tree()[1])
    return [columns.index(key) for key in keys]


def _spots_between(flat, places, numbers, first, last):
    """The spots of a flat term at moments from first to last, of rows with these numbers at these places."""
    rows = flat.rows_with(places, numbers)
    return [(moment, row) for moment in range(max(0, first), last + 1) for row in rows]


def _row_for_alone(question, river, where):
    sources, tree = question.sources(), question.tree()
    moment, row = where
    places, others_places = pair_places(tree[3], [columns_of(sources, part) for part in parts_of(tree)])
    bar = (tree[2], moment + tree[4], moment + tree[5], others_places, numbers_at(places, row))
    if spot_of(question, river.standing(), where) == 0:
        return _row_to_unbarred(question, river, [where], bar)
    # More of the row is told as more, or as none beside a partner; a first partner alone leaves none.
    more = _row_to_more(Flat(sources, tree[1]), river, [where])
    if more is not None:
        return more
    partners = Flat(sources, tree[2])
    return _row_to_more(partners, river, _spots_between(partners, others_places, bar[4], bar[1], bar[2]))


def _row_for_visit(question, river, where):
    _, part, keys, window, _ = question.tree()
    numbers, begin = where
    places = _places_of(question, keys)
    flat = flat_of(question)
    told = spot_of(question, river.standing(), where)
    if told is None:
        bar = (part, begin - window[1], begin - 1, places, numbers)
        spots = _spots_between(flat, places, numbers, begin, begin)
        return _row_to_unbarred(question, river, spots, bar)
    # More rows in the visit, or no more than a gap behind it, count in it; ahead of it they end that it begins there.
    last = told[len(keys) + 1] - 1
    return _row_to_more(flat, river, _spots_between(flat, places, numbers, begin - window[1], last + window[1]))


def _row_to_unbarred(question, river, spots, bar):
    """A further row behind which one of Q's spots stands and nothing bars it, None where there is none.

    A bar is a tree, a first and a last moment, and numbers at places of the rows: a row of these bars.
    The fewer letters stand the less is barred, so it is enough to look at each choice standing alone.
    """
    closed = {letter: count for letter, count in river.standing().items() if not river.is_open(letter)}
    if _is_barred(question.sources(), bar, closed):
        return None
    flat = flat_of(question)
    outlook = Outlook(flat, river, closed, sources_asked(bar[0]))
    tried = set()
    for moment, row in spots:
        for choice in outlook.choices(moment, row):
            if choice not in tried and not _is_barred(question.sources(), bar, _with_letters(closed, choice)):
                return _row_to_choice(question, river, choice)
            tried.add(choice)
    return None


def _is_barred(sources, bar, letters):
    tree, first, last, places, numbers = bar
    for moment, row in told_of(sources, tree, letters):
        if first <= moment <= last and numbers_at(places, row) == numbers:
            return True
    return False


def _with_letters(letters, choice):
    together = {letter: letters[letter] for letter in letters}
    for letter in choice:
        together[letter] = 1
    return together


def _row_to_choice(question, river, choice):
    """A further row behind which of a question's open letters just those of the choice stand."""
    standing = river.standing()
    names = question.source_names()
    row = [("letter", letter) for letter in choice if letter not in standing]
    for letter, count in standing.items():
        if letter[0] in names and letter not in choice and river.is_open(letter):
            row.extend([("back", letter)] * count)
    return row
