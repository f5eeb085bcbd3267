"""Reckonings and conditions, and their texts: point 21 of the document.

Terms may stand within one another thousands deep, so what goes through a term
that was handed in keeps its own list of what is yet to do and does not call itself.
"""

from lateriver.errors import NoTerm, NoText
from lateriver.names import LETTERS, is_name, is_whole
from lateriver.texts import past, run_at, text_of, whole_at

MOST_WITHIN = 40
FOLD_COLUMNS = ("begin", "behind", "many")

KINDS = {
    "column": "reckoning", "number": "reckoning", "sum": "reckoning",
    "less": "reckoning", "least": "reckoning", "most": "reckoning",
    "yes": "condition", "is": "condition", "below": "condition",
    "all": "condition", "any": "condition", "not": "condition",
}
KINDS_WITHIN = {
    "column": (), "number": (), "yes": (),
    "sum": ("reckoning", "reckoning"), "less": ("reckoning", "reckoning"),
    "least": ("reckoning", "reckoning"), "most": ("reckoning", "reckoning"),
    "is": ("reckoning", "reckoning"), "below": ("reckoning", "reckoning"),
    "all": ("condition", "condition"), "any": ("condition", "condition"),
    "not": ("condition",),
}
INFIXES = {"sum": " + ", "less": " - ", "is": " = ", "below": " < ", "all": " and ", "any": " or "}
CALLS = ("least", "most")


def is_reckoning(thing, columns):
    """True of a reckoning on these columns, False of anything else."""
    return _is_term(thing, "reckoning", columns)


def is_condition(thing, columns):
    """True of a condition on these columns, False of anything else."""
    return _is_term(thing, "condition", columns)


def reckoned(A, columns, row):
    """The number that a reckoning gives of a row."""
    if not is_reckoning(A, columns):
        raise NoTerm("this is no reckoning on these columns")
    return worth_of(A, columns, row)


def meets(C, columns, row):
    """Whether a row meets a condition."""
    if not is_condition(C, columns):
        raise NoTerm("this is no condition on these columns")
    return worth_of(C, columns, row)


def term_text(thing):
    """The text of a reckoning or a condition."""
    return text_of(thing, _pieces_of)


def read_reckoning(text):
    """The reckoning that a text was written of."""
    return _read_whole(text, "reckoning")


def read_condition(text):
    """The condition that a text was written of."""
    return _read_whole(text, "condition")


def term_at(text, at, deep):
    """The term whose text begins at a place, and the place behind it.

    At most so many terms as deep tells may stand within one another there.
    """
    if deep == 0:
        raise NoText("too many terms stand within one another")
    if text.startswith("(", at):
        return _infix_at(text, at, deep)
    word = run_at(text, at, LETTERS)
    behind = at + len(word)
    if word in CALLS:
        return _call_at(text, at, word, deep)
    if word == "not":
        part, behind = term_at(text, past(text, behind, " "), deep - 1)
        return _of_right_kinds(("not", part)), behind
    if word == "yes":
        return ("yes",), behind
    if is_name(word) or word in FOLD_COLUMNS:
        return ("column", word), behind
    number, behind = whole_at(text, at)
    return ("number", number), behind


def worth_of(term, columns, row):
    """The number, or the truth, that a term on these columns gives of a row."""
    numbers = dict(zip(columns, row))
    worths = []
    # Behind all terms that stand in it, so that their worths are there, the last one's on top.
    for part in reversed(terms_within(term)):
        word = part[0]
        if word == "column":
            worths.append(numbers[part[1]])
        elif word == "number":
            worths.append(part[1])
        elif word == "yes":
            worths.append(True)
        elif word == "not":
            worths.append(not worths.pop())
        else:
            other = worths.pop()
            worths.append(_put_together(word, worths.pop(), other))
    return worths[0]


def _is_term(thing, kind, columns):
    pending = [(thing, kind)]
    while pending:
        part, wanted = pending.pop()
        if not _is_headed(part, wanted, columns):
            return False
        pending.extend(list(zip(part[1:], KINDS_WITHIN[part[0]])))
    return True


def _is_headed(thing, kind, columns):
    """Whether a thing is a term of a kind, whatever terms stand in it."""
    if not isinstance(thing, tuple) or len(thing) == 0:
        return False
    word = thing[0]
    if not isinstance(word, str) or KINDS.get(word) != kind:
        return False
    if word == "column":
        return len(thing) == 2 and isinstance(thing[1], str) and thing[1] in columns
    if word == "number":
        return len(thing) == 2 and is_whole(thing[1])
    return len(thing) == len(KINDS_WITHIN[word]) + 1


def terms_within(term):
    """The term and all terms in it, each ahead of those in it, a second one ahead of a first one."""
    found = []
    pending = [term]
    while pending:
        part = pending.pop()
        found.append(part)
        if KINDS_WITHIN[part[0]]:
            pending.extend(part[1:])
    return found


def _put_together(word, one, other):
    if word == "sum":
        return one + other
    if word == "less":
        return one - other
    if word == "least":
        return min(one, other)
    if word == "most":
        return max(one, other)
    if word == "is":
        return one == other
    if word == "below":
        return one < other
    if word == "all":
        return one and other
    return one or other


def _pieces_of(term):
    """What a term's text is put together from, in order: texts, and terms yet to be written."""
    word = term[0]
    if word == "column":
        return [term[1]]
    if word == "number":
        return [str(term[1])]
    if word == "yes":
        return ["yes"]
    if word == "not":
        return ["not ", term[1]]
    if word in CALLS:
        return [word, "(", term[1], ", ", term[2], ")"]
    return ["(", term[1], INFIXES[word], term[2], ")"]


def _read_whole(text, kind):
    if not isinstance(text, str):
        raise NoText("this is no text")
    term, behind = term_at(text, 0, MOST_WITHIN)
    if behind != len(text):
        raise NoText("something stands behind the term")
    if KINDS[term[0]] != kind:
        raise NoText("this is a term of the other kind")
    return term


def _infix_at(text, at, deep):
    one, behind = term_at(text, at + 1, deep - 1)
    word = _infix_word_at(text, behind)
    other, behind = term_at(text, behind + len(INFIXES[word]), deep - 1)
    return _of_right_kinds((word, one, other)), past(text, behind, ")")


def _infix_word_at(text, at):
    for word, sign in INFIXES.items():
        if text.startswith(sign, at):
            return word
    raise NoText("no sign stands between two terms")


def _call_at(text, at, word, deep):
    one, behind = term_at(text, past(text, at, word + "("), deep - 1)
    other, behind = term_at(text, past(text, behind, ", "), deep - 1)
    return _of_right_kinds((word, one, other)), past(text, behind, ")")


def _of_right_kinds(term):
    """The term, where the terms in it are of the kinds that its word asks for."""
    if tuple([KINDS[part[0]] for part in term[1:]]) != KINDS_WITHIN[term[0]]:
        raise NoText("a term of the other kind stands within")
    return term
