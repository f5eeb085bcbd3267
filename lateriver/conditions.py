"""What rules ask of conditions, and make of them, however deep they are: of point 131 of the document."""

from lateriver.terms import KINDS_WITHIN, term_text, terms_within


def parts_of_condition(condition):
    """The parts of a condition, in order."""
    parts = []
    pending = [condition]
    while pending:
        part = pending.pop()
        if part[0] == "all":
            pending.extend([part[2], part[1]])
        elif part[0] != "yes":
            parts.append(part)
    return parts


def all_of(parts):
    """Conditions put together, in their order."""
    if len(parts) == 0:
        return ("yes",)
    together = parts[-1]
    for part in reversed(parts[:-1]):
        together = ("all", part, together)
    return together


def tidied(condition):
    """A condition's parts, each once, rising by their texts, put together."""
    by_text = {term_text(part): part for part in parts_of_condition(condition)}
    return all_of([by_text[text] for text in sorted(by_text)])


def asked_by(condition):
    """The columns that a condition asks, each with True."""
    return {part[1]: True for part in terms_within(condition) if part[0] == "column"}


def replaced(term, reckonings):
    """A reckoning or condition with a reckoning in each column's place."""
    made = []
    # Behind all terms that stand in it, so that these are made already, the last one on top.
    for part in reversed(terms_within(term)):
        many = len(KINDS_WITHIN[part[0]])
        if part[0] == "column":
            made.append(reckonings[part[1]])
        elif many == 0:
            made.append(part)
        else:
            within = made[-many:]
            del made[-many:]
            made.append((part[0], *within))
    return made[0]
