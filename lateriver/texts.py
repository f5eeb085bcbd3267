"""Writing things within one another, however deep, and reading what was written just so, place by place in a text."""

from lateriver.errors import NoText

FIGURES = "0123456789"
MOST_FIGURES = 12
MOST_PLAIN_FIGURES = 6


def text_of(thing, pieces_of, most=None):
    """The text of a thing, or its first signs, most of them or some more.

    By pieces_of a thing's text is put together, in order: of texts, and of things within it, yet to be written.
    """
    written = []
    length = 0
    pending = [thing]
    while pending and (most is None or length < most):
        piece = pending.pop()
        if isinstance(piece, str):
            written.append(piece)
            length += len(piece)
        else:
            # The piece that is written first is put last, to be taken first.
            pending.extend(pieces_of(piece)[::-1])
    return "".join(written)


def run_at(text, at, signs):
    """The longest part of the text from a place on that is of these signs alone."""
    behind = at
    while behind < len(text) and text[behind] in signs:
        behind += 1
    return text[at:behind]


def past(text, at, piece):
    """The place behind a piece that must stand at a place."""
    if not text.startswith(piece, at):
        raise NoText("what must stand here is missing")
    return at + len(piece)


def whole_at(text, at):
    """The whole number that is written at a place, and the place behind it."""
    sign = "-" if text.startswith("-", at) else ""
    figures = run_at(text, at + len(sign), FIGURES)
    if not 1 <= len(figures) <= MOST_FIGURES:
        raise NoText("no number stands here")
    number = int(sign + figures)
    # So neither noughts ahead nor -0 are read, which are never written.
    if str(number) != sign + figures:
        raise NoText("a number is written otherwise")
    return number, at + len(sign + figures)


def is_number(word, most):
    """Whether a text is a number of so many figures at most, without noughts ahead."""
    if not 1 <= len(word) <= most or run_at(word, 0, FIGURES) != word:
        return False
    return word == "0" or not word.startswith("0")


def plain_number_at(text, at):
    """The number of 1 to 6 figures that is written at a place, and the place behind it."""
    figures = run_at(text, at, FIGURES)
    if not is_number(figures, MOST_PLAIN_FIGURES):
        raise NoText("no number stands here, or one that is written otherwise")
    return int(figures), at + len(figures)
