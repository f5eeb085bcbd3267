"""What a name is, and what a whole number is: points 1 and 4 of the document."""

LETTERS = "abcdefghijklmnopqrstuvwxyz"
LONGEST_NAME = 6
KEPT_WORDS = (
    "source", "keep", "shape", "both", "join", "alone", "fold", "letter", "back", "mark", "end",
    "many", "begin", "behind", "of", "on", "by", "with", "from", "to", "pane", "slide", "visit",
    "sum", "least", "most", "yes", "not", "and", "or",
)


def is_whole(thing):
    """True of a whole number, which a truth is not."""
    return isinstance(thing, int) and not isinstance(thing, bool)


def is_name(thing):
    """True of a text of 1 to 6 small letters that is no kept word."""
    if not isinstance(thing, str) or not 1 <= len(thing) <= LONGEST_NAME:
        return False
    return all([sign in LETTERS for sign in thing]) and thing not in KEPT_WORDS
