"""The mill, which answers questions change by change: stage 8 of the document."""

from lateriver.bags import changes_of, less
from lateriver.errors import NoQuestion
from lateriver.plain import letters_of, put_together
from lateriver.questions import Question, question_text
from lateriver.rivers import River
from lateriver.trees import columns_of, parts_of, sources_asked


class Mill:
    """What takes happenings one by one and tells by what each question's answer changes."""

    def __init__(self, sources, questions):
        self._river = River(sources)
        if not are_questions(sources, questions):
            raise NoQuestion("this is no list of questions of these sources")
        self._asked = [question_text(question.tree()) for question in questions]
        # The unlike terms by their texts, those within a term ahead of it.
        self._terms = {}
        for question in questions:
            for tree in reversed(question.terms()):
                self._terms[question_text(tree)] = tree
        self._bags = {text: {} for text in self._terms}
        self._looked = 0

    def take(self, happening):
        """The list of each question's changes."""
        counted = self._river.take(happening)
        if not counted or happening[0] in ("mark", "end"):
            return [[] for _ in self._asked]
        changed = self._look_at_terms_of(happening[1][0])
        return [changes_of(changed.get(text, {})) for text in self._asked]

    def answers(self):
        """The list of the questions' bags."""
        return [{pair: self._bags[text][pair] for pair in self._bags[text]} for text in self._asked]

    def river(self):
        """A twin of the mill's own river."""
        return self._river.twin()

    def looked(self):
        """How many terms were looked at in all."""
        return self._looked

    def _look_at_terms_of(self, name):
        """Bring the terms with a source in them up to date; the bags by which they change, by their texts."""
        letters = self._river.standing()
        changed = {}
        for text, tree in self._terms.items():
            if name in sources_asked(tree):
                bag = self._told_now(tree, letters)
                changed[text] = less(bag, self._bags[text])
                self._bags[text] = bag
                self._looked += 1
        return changed

    def _told_now(self, tree, letters):
        """What a term tells now, what stands within it being up to date."""
        if tree[0] == "source":
            return letters_of(tree[1], letters)
        parts = parts_of(tree)
        columns = [columns_of(self._river.sources(), part) for part in parts]
        return put_together(tree, columns, [self._bags[question_text(part)] for part in parts])


def are_questions(sources, thing):
    """Whether a thing is a list of questions of these sources."""
    if not isinstance(thing, list):
        return False
    for question in thing:
        if not isinstance(question, Question) or question.sources() != sources:
            return False
    return True
