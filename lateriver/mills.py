"""The mill, which answers questions change by change: stage 8 of the document."""

from lateriver.bags import changes_of, less
from lateriver.errors import NoQuestion
from lateriver.plain import put_together
from lateriver.questions import Question, question_text
from lateriver.rivers import River
from lateriver.trees import columns_of, parts_of, sources_asked


class Mill:
    """What takes happenings one by one and tells by what each question's answer changes."""

    def __init__(self, sources, questions):
        self._river = River(sources)
        if not are_questions(sources, questions):
            raise NoQuestion("this is no list of questions of these sources")
        self._asked = [question_text(question.tree()) for question in questions]
        # The unlike terms by their texts, those within a term ahead of it.
        self._terms = {}
        for question in questions:
            for tree in reversed(question.terms()):
                text = question_text(tree)
                if text not in self._terms:
                    self._terms[text] = Term(sources, tree)
        self._looked = 0

    def take(self, happening):
        """The list of each question's changes."""
        counted = self._river.take(happening)
        if not counted or happening[0] in ("mark", "end"):
            return [[] for _ in self._asked]
        changed = self._look_at_terms_of(happening[1], 1 if happening[0] == "letter" else -1)
        return [changes_of(changed.get(text, {})) for text in self._asked]

    def answers(self):
        """The list of the questions' bags."""
        bags = [self._terms[text].bag for text in self._asked]
        return [{pair: bag[pair] for pair in bag} for bag in bags]

    def river(self):
        """A twin of the mill's own river."""
        return self._river.twin()

    def looked(self):
        """How many terms were looked at in all."""
        return self._looked

    def _look_at_terms_of(self, letter, count):
        """Bring the terms with a letter's source in them up to date; the bags by which they change, by their texts."""
        name, moment, row = letter
        changed = {}
        for text, term in self._terms.items():
            if name in term.names:
                if term.term[0] == "source":
                    changed[text] = term.count_more((moment, row), count)
                else:
                    changed[text] = term.tell_anew([self._terms[part].bag for part in term.parts])
                self._looked += 1
        return changed


class Term:
    """A term of a mill's questions: what is asked of it again and again, and what it tells now."""

    def __init__(self, sources, tree):
        self.term = tree
        self.names = sources_asked(tree)
        self.parts = [question_text(part) for part in parts_of(tree)]
        self.bag = {}
        self._columns = [columns_of(sources, part) for part in parts_of(tree)]

    def count_more(self, pair, count):
        """Count so many more of a pair, of a source; the bag by which it changes."""
        self.bag[pair] = self.bag.get(pair, 0) + count
        if self.bag[pair] == 0:
            del self.bag[pair]
        return {pair: count}

    def tell_anew(self, bags):
        """Tell anew what it makes of what the terms in it tell; the bag by which it changes."""
        bag = put_together(self.term, self._columns, bags)
        changed = less(bag, self.bag)
        self.bag = bag
        return changed


def are_questions(sources, thing):
    """Whether a thing is a list of questions of these sources."""
    if not isinstance(thing, list):
        return False
    for question in thing:
        if not isinstance(question, Question) or question.sources() != sources:
            return False
    return True
