"""What lacks at a spot, what makes it fall, and what frees a row that isn't alone: point 121 of the document."""

from lateriver.covers import least_cover
from lateriver.errors import NoQuestion
from lateriver.finals import flat_of, refuse_no_spot, refuse_other_sources, refuse_unlike_windows, spots_for
from lateriver.outlooks import Flat, Just, Outlook, all_ways
from lateriver.plain import numbers_at, pair_places, told_of
from lateriver.rivers import River
from lateriver.trees import columns_of, parts_of


def lacking(question, river, where):
    """What lacks at a spot: nothing, the fewest letters, or of each way a closed letter that bars it."""
    _refuse_no_spot_of_windows(question, river, where)
    if _spots_told(question, river, where):
        return ("there",)
    flat = flat_of(question)
    spots = spots_for(question, flat, where)
    lacked = _fewest_lacked(flat, river, spots)
    if lacked is not None:
        return ("come", tuple(lacked))
    standing = river.standing()
    ways = all_ways(flat, River(river.sources()), spots)
    return ("never", [(way, _bar_of(river, standing, way)) for way in ways])


def falling(question, river, where):
    """What makes a spot fall: it is gone, stays by a way of closed letters, or goes by the fewest backs."""
    _refuse_no_spot_of_windows(question, river, where)
    standing = river.standing()
    spots = _spots_told(question, river, where)
    if len(spots) == 0:
        return ("gone",)
    ways = all_ways(flat_of(question), Just(standing), spots)
    groups = [_open_ones(river, way) for way in ways]
    if [] in groups:
        return ("stays", ways[groups.index([])])
    return ("back", least_cover(groups, standing))


def freed(question, river, where):
    """What frees an alone's row of its partners: it is gone, it is told, or it is by the fewest backs, or never."""
    tree = question.tree()
    if tree[0] != "alone":
        raise NoQuestion("this question is no alone")
    refuse_other_sources(question, river)
    refuse_no_spot(question, where)
    sources, standing = river.sources(), river.standing()
    if where not in told_of(sources, tree[1], standing):
        return ("gone",)
    if where in told_of(sources, tree, standing):
        return ("there",)
    groups = [_open_ones(river, way) for way in _ways_of_partners(sources, tree, standing, where)]
    own = all_ways(Flat(sources, tree[1]), Just(standing), [where])
    best = None
    for kept in _least_kept(own, groups):
        left = [[letter for letter in group if letter not in kept] for group in groups]
        if [] not in left:
            letters = least_cover(left, standing)
            found = (sum([standing[letter] for letter in letters]), letters)
            if best is None or found < best:
                best = found
    return ("never",) if best is None else ("back", best[1])


def _refuse_no_spot_of_windows(question, river, where):
    refuse_unlike_windows(question, river)
    refuse_no_spot(question, where)


def _spots_told(question, river, where):
    """The spots of the flat term that count at a spot and are told of what stands."""
    flat = flat_of(question)
    told = told_of(river.sources(), flat.term, river.standing())
    return [spot for spot in spots_for(question, flat, where) if spot in told]


def _fewest_lacked(flat, river, spots):
    """The fewest letters, of as few the least, behind which one of the spots stands, None where none can.

    None of them stands, so that each way in which one can has an open letter.
    """
    standing = river.standing()
    if not Outlook(flat, river, standing, None).has_more_at(spots):
        return None
    most, lacked = 0, []
    # As long as none is enough few choices are looked at.
    while len(lacked) == 0:
        most += 1
        outlook = Outlook(flat, river, standing, [], most)
        lacked = [outlook.lacked(choice) for moment, row in spots for choice in outlook.choices(moment, row)]
    return min([(len(letters), letters) for letters in lacked])[1]


def _bar_of(river, standing, way):
    """The first letter of a way that doesn't stand and is closed."""
    return [letter for letter in way if letter not in standing and not river.is_open(letter)][0]


def _open_ones(river, way):
    return [letter for letter in way if river.is_open(letter)]


def _ways_of_partners(sources, tree, standing, where):
    """The ways, of letters that stand, of all rows of R that are partners of a row of Q."""
    moment, row = where
    places, others_places = pair_places(tree[3], [columns_of(sources, part) for part in parts_of(tree)])
    spots = []
    for other_moment, other in told_of(sources, tree[2], standing):
        near = tree[4] <= other_moment - moment <= tree[5]
        if near and numbers_at(others_places, other) == numbers_at(places, row):
            spots.append((other_moment, other))
    return all_ways(Flat(sources, tree[2]), Just(standing), spots)


def _least_kept(ways, groups):
    """Of each way of a row that must stand on what of it is in the groups: none that has all of another one."""
    wanted = {letter for group in groups for letter in group}
    found = []
    for way in ways:
        kept = [letter for letter in way if letter in wanted]
        if not any([_has_all(kept, other) for other in found]):
            found = [other for other in found if not _has_all(other, kept)] + [kept]
    return found


def _has_all(letters, others):
    return all([other in letters for other in others])
