"""Rows of words, by which sources, letters and happenings are written: of points 151 and 161 of the document."""

from lateriver.texts import is_number


def source_row(source):
    """The row of a source."""
    name, columns = source
    return " ".join(["source", name, *[f"{column} {top}" for column, top in columns]])


def letter_row(letter):
    """The words of a letter."""
    name, moment, row = letter
    return " ".join([name, *[str(number) for number in (moment, *row)]])


def happening_row(happening):
    """The row of a happening."""
    if happening[0] in ("letter", "back"):
        return f"{happening[0]} {letter_row(happening[1])}"
    return " ".join([str(thing) for thing in happening])


def source_in(words, most):
    """What a row's words tell as a source, be it one or not, of numbers of so many figures; None of another form."""
    if words[0] != "source" or len(words) < 4 or len(words) % 2 == 1:
        return None
    numbers = numbers_in(words[3::2], most)
    return None if numbers is None else (words[1], tuple(list(zip(words[2::2], numbers))))


def happening_in(words, most):
    """What a row's words tell as a happening, be it one or not, of numbers of so many figures; None of another form."""
    word, many = words[0], len(words)
    if word == "end":
        return (word, words[1]) if many == 2 else None
    numbers = numbers_in(words[2:], most)
    if numbers is None:
        return None
    if word == "mark":
        return (word, words[1], numbers[0]) if many == 3 else None
    if word in ("letter", "back") and many > 3:
        return (word, (words[1], numbers[0], tuple(numbers[1:])))
    return None


def numbers_in(words, most):
    """The numbers of which words are, None where one is no number of so many figures at most."""
    if not all([is_number(word, most) for word in words]):
        return None
    return [int(word) for word in words]
