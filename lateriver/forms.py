"""Plain forms of questions, and the steps to them and between questions: of point 131 of the document."""

from lateriver.nodes import made_of, node_of, with_part
from lateriver.questions import question_text
from lateriver.rules import become, done_at

# A tree is gone through in two stages: first for what moves terms, then, where all stays, for what tidies and sorts.
STAGES = (1, 2)
# Rules that are done on the way down, by the stage, the word of the term, and whether it will be a both: what goes
# to each part of boths is put together, and tidied, before it does, so that each step is done once for all of them.
DOWN = {
    (1, "keep", True): ("free", "merge", "downshape", "downalone", "downjoin", "tidy", "downboth"),
    (1, "keep", False): ("free", "merge"), (1, "shape", True): ("same", "onshape", "upshape"),
    (1, "shape", False): ("same",), (1, "both", True): ("row",),
    (2, "keep", False): ("free",),
}
# Rules that are done where nothing is left to do in the terms within, so that little is put in columns' places.
UP = {
    (1, "keep"): ("downshape", "downalone", "downjoin", "downfold"), (1, "shape"): ("onshape",),
    (1, "join"): ("upleft", "upright"), (1, "alone"): ("upalone",), (2, "keep"): ("tidy",),
}


def plain_form(sources, tree):
    """The tree that comes where no rule fits any more."""
    return _plain(node_of(sources, tree), None).term


def steps_of(sources, tree):
    """A list of (place, rule) that leads to the plain form."""
    steps = []
    _plain(node_of(sources, tree), steps)
    return steps


def led_by(sources, one, other):
    """The steps from one tree to another one, forth and back, None where their plain forms are unlike."""
    first, second = node_of(sources, one), node_of(sources, other)
    if question_text(one) == question_text(other):
        return []
    steps, steps_back = [], []
    if question_text(_plain(first, steps).term) != question_text(_plain(second, steps_back).term):
        return None
    back = []
    for place, rule in steps_back:
        back.append(("back", place, rule, second.term))
        second = done_at(second, place, rule)
    return [("forth", place, rule) for place, rule in steps] + back[::-1]


def _plain(node, steps):
    """The plain form of a node; the steps to it are put behind those of the list, where there is one."""
    for stage in STAGES:
        node = _gone_through(node, stage, steps)
    return node


def _gone_through(node, stage, steps):
    """The node behind all that is to be done in it at that stage."""
    way, place = [node], []
    while node.gone_through < stage:
        node = way[-1]
        lower = _first_to_go(node, stage)
        rule, made = _first_fitting(node, DOWN.get((stage, node.word, node.spreads), ()))
        if rule is None and lower is None:
            rule, made = _first_fitting(node, UP.get((stage, node.word), ()))
        if rule is not None:
            _note(steps, place, 0, rule)
            way[-1] = made
            if made.word == "both" and _is_in_both(way, place, 0):
                # It is put in a row first, while nothing in it is in one: that takes the fewest steps.
                _go_up(way, place, made)
        elif lower is not None:
            way.append(node.parts[lower])
            place.append(lower)
        else:
            if stage == 2 and node.word == "both" and not _is_in_both(way, place, 1):
                node = _sorted_boths(node, place, steps)
            node.gone_through = stage
            node = _go_up(way, place, node)
    return node


def _first_to_go(node, stage):
    """The number of a node's first part that is yet to be gone through, None where there is none."""
    for number, part in enumerate(node.parts):
        if part.gone_through < stage:
            return number
    return None


def _first_fitting(node, rules):
    """The first of the rules that fits a node, and what it makes of it, None where none does."""
    for rule in rules:
        made = become(node, rule)
        if made is not None:
            return rule, made
    return None, None


def _note(steps, place, behind, rule):
    """Put a step to the list, where there is one, so many boths behind a place."""
    if steps is not None:
        steps.append((tuple(place) + (1,) * behind, rule))


def _is_in_both(way, place, number):
    """Whether the last node on the way is the part of that number of a both."""
    return len(way) > 1 and place[-1] == number and way[-2].word == "both"


def _go_up(way, place, node):
    """Take the last node from the way and put it in its place in the one above; that one, or itself where none is."""
    way.pop()
    if len(way) > 0:
        way[-1] = with_part(way[-1], place.pop(), node)
        node = way[-1]
    return node


def _sorted_boths(node, place, steps):
    """Boths within one another, of nodes that are gone through, with these rising by their texts."""
    nodes = []
    while node.word == "both":
        nodes.append(node.parts[0])
        node = node.parts[1]
    nodes.append(node)
    texts = [question_text(part.term) for part in nodes]
    if steps is not None:
        _note_turns(texts, place, steps)
    order = sorted([(text, number) for number, text in enumerate(texts)])
    sorted_node = nodes[order[-1][1]]
    for _, number in reversed(order[:-1]):
        sorted_node = made_of("both", [nodes[number], sorted_node])
        sorted_node.gone_through = node.gone_through
    return sorted_node


def _note_turns(texts, place, steps):
    """The steps by which texts come to rise, each taking one past the next one, the last ones first."""
    texts = list(texts)
    last = len(texts) - 2
    for first in range(last, -1, -1):
        at = first
        while at <= last and texts[at + 1] < texts[at]:
            texts[at], texts[at + 1] = texts[at + 1], texts[at]
            _note(steps, place, at, "turn" if at == last else "pass")
            at += 1
