"""The rules by which questions are rewritten, each step answering alike: of point 131 of the document."""

from lateriver.conditions import all_of, asked_by, parts_of_condition, replaced, tidied
from lateriver.errors import NoRule, NoSpot
from lateriver.names import is_whole
from lateriver.nodes import made_of, node_of, with_part
from lateriver.questions import begun_text, question_text
from lateriver.terms import term_text

# Of so many signs two texts are compared first, since whole ones may be long.
FIRST_SIGNS = 200


def rule_names():
    """The rising list of the rules' names."""
    return sorted(RULES)


def done_by(sources, tree, place, rule):
    """The tree behind a rule at a place in it."""
    root = node_of(sources, tree)
    above = _nodes_on_the_way(root, place)
    if above is None:
        raise NoSpot("this is no place in the tree")
    made = become(above[-1], rule) if isinstance(rule, str) and rule in RULES else None
    if made is None:
        raise NoRule("this is no rule's name, or the rule does not fit there")
    return within(above, place, made).term


def fitting(sources, tree):
    """The rising list of the pairs (place, rule) that fit."""
    found = []
    pending = [((), node_of(sources, tree))]
    while pending:
        place, node = pending.pop()
        found.extend([(place, rule) for rule in RULES_OF[node.word] if become(node, rule) is not None])
        # The place that is less is put last, to be taken first.
        for number in reversed(range(len(node.parts))):
            pending.append((place + (number,), node.parts[number]))
    return found


def become(node, rule):
    """The node that a rule makes of a node, None where it doesn't fit."""
    action = RULES[rule]
    return action(node)


def done_at(root, place, rule):
    """The root behind a rule that fits at a place."""
    above = _nodes_on_the_way(root, place)
    return within(above, place, become(above[-1], rule))


def within(above, place, node):
    """The root with another node at a place, of the nodes on the way there, the root first."""
    for number, upper in zip(place[::-1], above[-2::-1]):
        node = with_part(upper, number, node)
    return node


def _nodes_on_the_way(root, place):
    """The nodes from the root to a place, None of what is no place there."""
    if not isinstance(place, tuple):
        return None
    above = [root]
    for number in place:
        if not is_whole(number) or not 0 <= number < len(above[-1].parts):
            return None
        above.append(above[-1].parts[number])
    return above


def _is_of(node, word, inner):
    """Whether a node is of a word, and its first part of another one."""
    return node.word == word and node.parts[0].word == inner


def _keep(node, condition):
    return made_of("keep", [node], condition)


def _kept(node, parts):
    """The keep of a node by these parts, itself where there are none."""
    return _keep(node, all_of(parts)) if len(parts) > 0 else node


def _merge(node):
    if not _is_of(node, "keep", "keep"):
        return None
    inner = node.parts[0]
    return _keep(inner.parts[0], ("all", inner.rest[0], node.rest[0]))


def _free(node):
    return node.parts[0] if node.word == "keep" and node.rest[0][0] == "yes" else None


def _tidy(node):
    if node.word != "keep":
        return None
    condition = tidied(node.rest[0])
    # Conditions may be too deep to be compared as tuples.
    if term_text(condition) == term_text(node.rest[0]):
        return None
    return _keep(node.parts[0], condition)


def _downshape(node):
    if not _is_of(node, "keep", "shape"):
        return None
    shape = node.parts[0]
    condition = replaced(node.rest[0], _reckonings_of(shape))
    return with_part(shape, 0, _keep(shape.parts[0], condition))


def _downboth(node):
    if not _is_of(node, "keep", "both"):
        return None
    return made_of("both", [_keep(part, node.rest[0]) for part in node.parts[0].parts])


def _downalone(node):
    if not _is_of(node, "keep", "alone"):
        return None
    alone = node.parts[0]
    return with_part(alone, 0, _keep(alone.parts[0], node.rest[0]))


def _downjoin(node):
    if not _is_of(node, "keep", "join"):
        return None
    join = node.parts[0]
    for number in (0, 1):
        others = {name: True for name in join.parts[1 - number].names}
        parts = [(part, _has_any(asked_by(part), others)) for part in parts_of_condition(node.rest[0])]
        made = _with_parts_down(join, number, parts)
        if made is not None:
            return made
    return None


def _downfold(node):
    if not _is_of(node, "keep", "fold"):
        return None
    fold = node.parts[0]
    others = {name: True for name in fold.names[len(fold.rest[0]):]}
    parts = [(part, _has_any(asked_by(part), others)) for part in parts_of_condition(node.rest[0])]
    return _with_parts_down(fold, 0, parts)


def _with_parts_down(node, number, parts):
    """The node with a keep of one of its parts by what goes, itself kept by what stays; None where nothing goes.

    Parts are pairs of a part of a condition and whether it stays.
    """
    go = [part for part, stays in parts if not stays]
    if len(go) == 0:
        return None
    below = with_part(node, number, _kept(node.parts[number], go))
    return _kept(below, [part for part, stays in parts if stays])


def _has_any(names, others):
    return any([name in others for name in names])


def _reckonings_of(shape):
    """The reckoning of each column that a shape tells."""
    return {name: reckoning for name, reckoning in shape.rest[0]}


def _onshape(node):
    if not _is_of(node, "shape", "shape"):
        return None
    inner = node.parts[0]
    reckonings = _reckonings_of(inner)
    pairs = tuple([(name, replaced(reckoning, reckonings)) for name, reckoning in node.rest[0]])
    return made_of("shape", inner.parts, pairs)


def _same(node):
    if node.word != "shape":
        return None
    told = [name if reckoning[:2] == ("column", name) else None for name, reckoning in node.rest[0]]
    return node.parts[0] if told == node.parts[0].names else None


def _upshape(node):
    return _up(node, 0) if node.word == "shape" else None


def _upleft(node):
    return _up(node, 0) if node.word == "join" else None


def _upright(node):
    return _up(node, 1) if node.word == "join" else None


def _upalone(node):
    return _up(node, 0) if node.word == "alone" else None


def _up(node, number):
    """The both of two like nodes, each with one of the two parts of the both that stands in its place."""
    if node.parts[number].word != "both":
        return None
    return made_of("both", [with_part(node, number, part) for part in node.parts[number].parts])


def _row(node):
    if not _is_of(node, "both", "both"):
        return None
    inner = node.parts[0]
    return made_of("both", [inner.parts[0], made_of("both", [inner.parts[1], node.parts[1]])])


def _turn(node):
    if node.word != "both" or "both" in [part.word for part in node.parts]:
        return None
    one, other = node.parts
    return made_of("both", [other, one]) if _is_ahead(other, one) else None


def _pass(node):
    if node.word != "both" or node.parts[0].word == "both" or node.parts[1].word != "both":
        return None
    one, (other, last) = node.parts[0], node.parts[1].parts
    if other.word == "both" or not _is_ahead(other, one):
        return None
    return made_of("both", [other, made_of("both", [one, last])])


def _is_ahead(one, other):
    """Whether the text of one node is less than that of another one."""
    texts = [begun_text(node.term, FIRST_SIGNS) for node in (one, other)]
    if texts[0][:FIRST_SIGNS] == texts[1][:FIRST_SIGNS]:
        texts = [question_text(node.term) for node in (one, other)]
    return texts[0] < texts[1]


RULES = {
    "merge": _merge, "free": _free, "tidy": _tidy, "downshape": _downshape, "downboth": _downboth,
    "downalone": _downalone, "downjoin": _downjoin, "downfold": _downfold, "onshape": _onshape, "same": _same,
    "upshape": _upshape, "upleft": _upleft, "upright": _upright, "upalone": _upalone, "row": _row, "turn": _turn,
    "pass": _pass,
}
# The rules that can fit where a term of each word stands, rising.
RULES_OF = {
    "source": (), "keep": ("downalone", "downboth", "downfold", "downjoin", "downshape", "free", "merge", "tidy"),
    "shape": ("onshape", "same", "upshape"), "both": ("pass", "row", "turn"), "join": ("upleft", "upright"),
    "alone": ("upalone",), "fold": (),
}
