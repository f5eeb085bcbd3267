"""The plain reading of questions, of all letters that stand: point 51 of the document."""

from lateriver.bags import added, summed
from lateriver.errors import NoLetter, NoSpot
from lateriver.names import is_whole
from lateriver.sources import is_letter
from lateriver.terms import worth_of
from lateriver.trees import columns_of, parts_of


def answer_of(question, letters):
    """The bag that a question tells of letters, which are told with their counts."""
    sources = question.sources()
    for letter in letters:
        if not is_letter(sources, letter):
            raise NoLetter("this is no letter of the question's sources")
    return told_of(sources, question.tree(), letters)


def spot_of(question, letters, where):
    """What stands at a spot: of a fold its row or None, of others the count."""
    if not is_spot(question, where):
        raise NoSpot("this is no spot of the question")
    answer = answer_of(question, letters)
    if question.tree()[0] != "fold":
        return answer.get(where, 0)
    return folded_rows(question.tree(), answer).get(where)


def is_spot(question, thing):
    """True of a spot of the question, False of anything else."""
    if not isinstance(thing, tuple) or len(thing) != 2:
        return False
    if question.tree()[0] == "fold":
        return _are_numbers(thing[0], len(question.tree()[2])) and _is_moment(thing[1])
    return _is_moment(thing[0]) and _are_numbers(thing[1], len(question.columns()))


def folded_rows(tree, bag):
    """A fold's rows by their keys and the moments at which their windows begin."""
    many_keys = len(tree[2])
    return {(row[:many_keys], row[many_keys]): row for _, row in bag}


def told_of(sources, tree, letters):
    """The bag that a question's tree tells of letters of these sources."""
    if tree[0] == "source":
        return letters_of(tree[1], letters)
    parts = parts_of(tree)
    columns = [columns_of(sources, part) for part in parts]
    return put_together(tree, columns, [told_of(sources, part, letters) for part in parts])


def letters_of(name, letters):
    """The bag of one source's letters."""
    return {(moment, row): count for (source, moment, row), count in letters.items() if source == name}


def put_together(tree, columns, bags):
    """The bag that a term, no source, makes of those of the terms in it, whose columns are told."""
    word = tree[0]
    if word == "keep":
        return {(moment, row): count for (moment, row), count in bags[0].items() if worth_of(tree[2], columns[0], row)}
    if word == "shape":
        return _shaped(tree[2], columns[0], bags[0])
    if word == "both":
        return added(bags[0], bags[1])
    if word == "join":
        return _joined(tree, columns, bags)
    if word == "alone":
        return _left_alone(tree, columns, bags)
    return _folded(tree, columns[0], bags[0])


def _are_numbers(thing, many):
    if not isinstance(thing, tuple) or len(thing) != many:
        return False
    return all([is_whole(number) for number in thing])


def _is_moment(thing):
    return is_whole(thing) and thing >= 0


def _shaped(pairs, columns, bag):
    shaped = []
    for (moment, row), count in bag.items():
        shaped.append((moment, tuple([worth_of(reckoning, columns, row) for _, reckoning in pairs]), count))
    return summed(shaped)


def _joined(term, columns, bags):
    joined = []
    places, others_places = pair_places(term[3], columns)
    partners = _by_numbers(others_places, bags[1])
    for (moment, row), count in bags[0].items():
        for other_moment, other_row, other_count in partners.get(numbers_at(places, row), []):
            if term[4] <= other_moment - moment <= term[5]:
                joined.append((max(moment, other_moment), row + other_row, count * other_count))
    return summed(joined)


def _left_alone(term, columns, bags):
    places, others_places = pair_places(term[3], columns)
    partners = _by_numbers(others_places, bags[1])
    alone = {}
    for (moment, row), count in bags[0].items():
        apart = [other - moment for other, _, _ in partners.get(numbers_at(places, row), [])]
        if not any([term[4] <= far <= term[5] for far in apart]):
            alone[(moment, row)] = count
    return alone


def pair_places(pairs, columns):
    """The places in the rows of Q, and in those of R, of the columns that are paired, in order."""
    return [columns[0].index(one) for one, _ in pairs], [columns[1].index(other) for _, other in pairs]


def numbers_at(places, row):
    return tuple([row[place] for place in places])


def _by_numbers(places, bag):
    """What is in a bag, as (moment, row, count), by the numbers at these places of the rows."""
    found = {}
    for (moment, row), count in bag.items():
        found.setdefault(numbers_at(places, row), []).append((moment, row, count))
    return found


def _folded(term, columns, bag):
    _, _, keys, window, sums = term
    folded = {}
    for numbers, things in _by_numbers([columns.index(key) for key in keys], bag).items():
        for begin, behind, within in _windows(window, things):
            row = (*numbers, begin, behind, sum([count for _, _, count in within]))
            for _, word, column in sums:
                row = (*row, _sum_of(word, columns.index(column), within))
            folded[(behind - 1, row)] = 1
    return folded


def _sum_of(word, place, things):
    if word == "sum":
        return sum([row[place] * count for _, row, count in things])
    numbers = [row[place] for _, row, _ in things]
    if word == "least":
        return min(numbers)
    return max(numbers)


def _windows(window, things):
    """The windows that things of like keys are in: where each begins, what is behind it, what is in it."""
    if window[0] == "visit":
        return _visits(window[1], sorted(things))
    size = window[1]
    within = {}
    for thing in things:
        for begin in begins_with(window, thing[0]):
            within.setdefault(begin, []).append(thing)
    return [(begin, begin + size, within[begin]) for begin in within]


def begins_with(window, moment):
    """The rising list of the moments at which the panes, or slides, begin that have a moment in them."""
    size = window[1]
    if window[0] == "pane":
        return [moment // size * size]
    step = window[2]
    # The least multiple of step that is no more than size - 1 ahead of the moment.
    first = -((size - 1 - moment) // step) * step
    return list(range(max(first, 0), moment + 1, step))


def _visits(gap, things):
    """The visits of things that rise by moment."""
    visits = []
    for thing in things:
        if visits and thing[0] - visits[-1][-1][0] <= gap:
            visits[-1].append(thing)
        else:
            visits.append([thing])
    return [(visit[0][0], visit[-1][0] + 1, visit) for visit in visits]
