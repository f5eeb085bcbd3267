"""How a question's answer changes by a happening: point 71 of the document."""

from lateriver.bags import less
from lateriver.errors import NoLetter, NoQuestion
from lateriver.plain import answer_of, folded_rows
from lateriver.sources import is_letter


def delta(question, letters, letter, count):
    """The bag by which the answer changes where the letter's count changes by 1 or -1."""
    if not is_letter(question.sources(), letter):
        raise NoLetter("this is no letter of the question's sources")
    if letters.get(letter, 0) + count < 0:
        raise NoLetter("no such letter is there that could go")
    ahead = answer_of(question, letters)
    return less(answer_of(question, _with_change(letters, letter, count)), ahead)


def touched(question, letters, letter):
    """The rising list of (keys, begin) of all rows of a fold that come or go by one more of a letter."""
    tree = question.tree()
    if tree[0] != "fold":
        raise NoQuestion("this question is no fold")
    return sorted(folded_rows(tree, delta(question, letters, letter, 1)))


def _with_change(letters, letter, count):
    changed = {other: letters[other] for other in letters}
    changed[letter] = changed.get(letter, 0) + count
    if changed[letter] == 0:
        del changed[letter]
    return changed
