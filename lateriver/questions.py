"""Questions and their texts: points 31 and 32 of the document."""

from lateriver.errors import NoQuestion, NoSource, NoText
from lateriver.names import LETTERS
from lateriver.sources import are_sources
from lateriver.terms import MOST_WITHIN, term_at, term_text
from lateriver.texts import past, run_at, text_of, whole_at
from lateriver.trees import WINDOW_SIZES, columns_of, is_flat_tree, is_tree, sources_asked, terms_of

MOST_TERMS = 12
MOST_TERMS_WITHIN = 6


class Question:
    """What is asked of letters, by a tree of terms."""

    def __init__(self, sources, tree):
        if not are_sources(sources):
            raise NoSource("these are no sources")
        if not is_tree(sources, tree, MOST_TERMS, MOST_TERMS_WITHIN):
            raise NoQuestion("this is no question's tree of these sources")
        self._sources = sources
        self._tree = tree

    def tree(self):
        """The tree of which the question is."""
        return self._tree

    def sources(self):
        """The sources of which the question is."""
        return self._sources

    def columns(self):
        """The names of the things in each row that the question tells, in order."""
        return columns_of(self._sources, self._tree)

    def is_flat(self):
        """Whether only source, keep, shape, both and join stand in it."""
        return is_flat_tree(self._tree)

    def terms(self):
        """All trees in its tree, itself first, each ahead of those in it, Q's ahead of R's."""
        return terms_of(self._tree)

    def source_names(self):
        """The rising list of the names of the sources that stand in its tree."""
        return sources_asked(self._tree)


def question_text(tree):
    """The text of a question's tree."""
    return text_of(tree, _pieces_of)


def begun_text(tree, many):
    """The first signs, so many or some more, of the text of a question's tree."""
    return text_of(tree, _pieces_of, many)


def read_question(sources, text):
    """The question of these sources that a text was written of."""
    if not are_sources(sources):
        raise NoSource("these are no sources")
    if not isinstance(text, str):
        raise NoText("this is no text")
    tree, behind = _tree_at(text, 0, MOST_TERMS_WITHIN)
    if behind != len(text):
        raise NoText("something stands behind the question")
    try:
        return Question(sources, tree)
    except NoQuestion:
        raise NoText("this is the text of no question of these sources") from None


def _pieces_of(tree):
    """What a tree's text is put together from, in order: texts, and trees yet to be written."""
    word = tree[0]
    if word == "source":
        return [tree[1]]
    if word == "keep":
        return ["keep ", term_text(tree[2]), " of ", *_wrapped(tree[1])]
    if word == "shape":
        return ["shape ", ", ".join([name + " " + term_text(part) for name, part in tree[2]]), " of ",
                *_wrapped(tree[1])]
    if word == "fold":
        return ["fold ", *_wrapped(tree[1]), _folding_text(tree)]
    pieces = [word + " ", *_wrapped(tree[1]), " and ", *_wrapped(tree[2])]
    if word == "both":
        return pieces
    return pieces + [_partners_text(tree)]


def _wrapped(tree):
    return [tree[1]] if tree[0] == "source" else ["(", tree, ")"]


def _partners_text(tree):
    _, _, _, pairs, low, high = tree
    told = _told_behind(" on ", [" ".join(pair) for pair in pairs])
    return f"{told} from {low} to {high}"


def _folding_text(tree):
    _, _, keys, window, sums = tree
    numbers = " ".join([str(number) for number in window[1:]])
    told = _told_behind(" by ", keys) + f" {window[0]} {numbers}"
    return told + _told_behind(" with ", [" ".join(part) for part in sums])


def _told_behind(word, things):
    """A word and the list of things behind it, nothing where there are none."""
    if len(things) == 0:
        return ""
    return word + ", ".join(things)


def _tree_at(text, at, deep):
    """The tree whose text begins at a place, not in brackets, and the place behind it.

    At most so many terms as deep tells may stand within one another there.
    """
    if deep == 0:
        raise NoText("too many terms stand within one another")
    word, behind = _word_at(text, at)
    if word == "keep":
        condition, behind = term_at(text, past(text, behind, " "), MOST_WITHIN)
        part, behind = _part_at(text, past(text, behind, " of "), deep - 1)
        return ("keep", part, condition), behind
    if word == "shape":
        pairs, behind = _list_at(text, past(text, behind, " "), "shaping")
        part, behind = _part_at(text, past(text, behind, " of "), deep - 1)
        return ("shape", part, pairs), behind
    if word == "both":
        parts, behind = _two_at(text, behind, deep)
        return ("both", *parts), behind
    if word in ("join", "alone"):
        return _partners_at(text, behind, word, deep)
    if word == "fold":
        return _fold_at(text, behind, deep)
    return ("source", word), behind


def _part_at(text, at, deep):
    """The tree of a Q or an R, which stands in brackets where it is no source."""
    if not text.startswith("(", at):
        word, behind = _word_at(text, at)
        return ("source", word), behind
    tree, behind = _tree_at(text, at + 1, deep)
    if tree[0] == "source":
        raise NoText("a source stands in brackets")
    return tree, past(text, behind, ")")


def _two_at(text, at, deep):
    one, behind = _part_at(text, past(text, at, " "), deep - 1)
    other, behind = _part_at(text, past(text, behind, " and "), deep - 1)
    return (one, other), behind


def _partners_at(text, at, word, deep):
    parts, behind = _two_at(text, at, deep)
    pairs, behind = _list_behind(text, behind, " on ", "pair")
    low, behind = whole_at(text, past(text, behind, " from "))
    high, behind = whole_at(text, past(text, behind, " to "))
    return (word, *parts, pairs, low, high), behind


def _fold_at(text, at, deep):
    part, behind = _part_at(text, past(text, at, " "), deep - 1)
    keys, behind = _list_behind(text, behind, " by ", "name")
    window, behind = _window_at(text, past(text, behind, " "))
    sums, behind = _list_behind(text, behind, " with ", "sum")
    return ("fold", part, keys, window, sums), behind


def _window_at(text, at):
    word, behind = _word_at(text, at)
    numbers = ()
    for _ in range(WINDOW_SIZES.get(word, 1) - 1):
        number, behind = whole_at(text, past(text, behind, " "))
        numbers = (*numbers, number)
    return (word, *numbers), behind


def _list_behind(text, at, word, sort):
    """The things behind a word, none where the word does not stand at the place."""
    if not text.startswith(word, at):
        return (), at
    return _list_at(text, past(text, at, word), sort)


def _list_at(text, at, sort):
    """The things of a list, one at least, and the place behind them."""
    thing, behind = _thing_at(text, at, sort)
    things = [thing]
    while text.startswith(", ", behind):
        thing, behind = _thing_at(text, past(text, behind, ", "), sort)
        things.append(thing)
    return tuple(things), behind


def _thing_at(text, at, sort):
    word, behind = _word_at(text, at)
    if sort == "name":
        return word, behind
    behind = past(text, behind, " ")
    if sort == "shaping":
        reckoning, behind = term_at(text, behind, MOST_WITHIN)
        return (word, reckoning), behind
    other, behind = _word_at(text, behind)
    if sort == "pair":
        return (word, other), behind
    column, behind = _word_at(text, past(text, behind, " "))
    return (word, other, column), behind


def _word_at(text, at):
    """The small letters at a place; whether they are the word that is due there is asked of the whole."""
    word = run_at(text, at, LETTERS)
    return word, at + len(word)
