"""Trees, of however many terms, with what rules ask of them: of point 131 of the document."""

from lateriver.errors import NoQuestion, NoSource
from lateriver.sources import are_sources
from lateriver.trees import columns_beyond, is_tree, parts_of, terms_of


class Node:
    """A term, the nodes of the terms in it at once, and its columns."""

    def __init__(self, term, parts, names):
        self.term = term
        self.word = term[0]
        self.parts = parts
        self.names = names
        # What stands in the term behind the terms in it.
        self.rest = term[1 + len(parts):]
        # Whether it will be a both where no rule fits any more.
        self.spreads = _is_spread(self.word, parts)
        # How often it was gone through, all that fits being done.
        self.gone_through = 0


def node_of(sources, tree):
    """The node of a tree; NoSource of what are no sources, NoQuestion of what is no tree of them."""
    if not are_sources(sources):
        raise NoSource("these are no sources")
    if not is_tree(sources, tree, None, None):
        raise NoQuestion("this is no question's tree of these sources")
    nodes = []
    for term in reversed(terms_of(tree)):
        parts = [nodes.pop() for _ in parts_of(term)]
        nodes.append(Node(term, parts, columns_beyond(sources, term, [part.names for part in parts])))
    return nodes.pop()


def made_of(word, parts, *rest):
    """The node of a term, no source, of a word, of the nodes of the terms in it, and of what stands behind them."""
    term = (word, *[part.term for part in parts], *rest)
    return Node(term, parts, columns_beyond((), term, [part.names for part in parts]))


def with_part(node, number, part):
    """The node of a like term with another part of that number."""
    parts = list(node.parts)
    parts[number] = part
    return made_of(node.word, parts, *node.rest)


def _is_spread(word, parts):
    """Whether boths in the terms within a term come to stand above it."""
    if word == "join":
        return parts[0].spreads or parts[1].spreads
    return word == "both" or (word in ("keep", "shape", "alone") and parts[0].spreads)
