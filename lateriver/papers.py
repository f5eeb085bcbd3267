"""Papers, which show why a row is told: points 111, 112 and 113 of the document."""

from lateriver.errors import NoText
from lateriver.names import LETTERS, is_name, is_whole
from lateriver.plain import folded_rows, letters_of, numbers_at, put_together, told_of
from lateriver.sources import is_letter
from lateriver.texts import past, plain_number_at, run_at, text_of
from lateriver.trees import columns_of, parts_of

MOST_PAPERS_WITHIN = 6
# The words of the papers of each term, by the number of the part in it that the first paper within shows.
WORDS = {
    "source": ("letter",), "keep": ("kept",), "shape": ("shaped",), "both": ("one", "other"),
    "join": ("joined",), "alone": ("single",), "fold": ("folded",),
}
SIZES = {
    "letter": 2, "kept": 2, "shaped": 2, "one": 2, "other": 2, "joined": 3, "single": 2, "folded": 3,
}


def shows(question, letters, paper):
    """The pair (moment, row) that a paper shows, None of what is no paper of the question by these letters."""
    return _shown_by(question.sources(), question.tree(), letters, paper)


def much_of(letters, paper):
    """How many a paper shows, of letters by which it does."""
    word = paper[0]
    if word == "letter":
        return letters[paper[1]]
    if word == "joined":
        return much_of(letters, paper[1]) * much_of(letters, paper[2])
    return 1 if word == "folded" else much_of(letters, paper[1])


def papers_of(question, letters, moment, row):
    """The list of all papers that show a row at a moment, rising by their texts."""
    return _sorted_papers(Shown(question.sources(), question.tree(), letters).papers(moment, row))


def paper_text(paper):
    """The text of a paper."""
    return text_of(paper, _pieces_of)


def read_paper(text):
    """The paper that a text was written of, whether it shows anything or not."""
    if not isinstance(text, str):
        raise NoText("this is no text")
    paper, behind = _paper_at(text, 0, MOST_PAPERS_WITHIN)
    if behind != len(text):
        raise NoText("something stands behind the paper")
    return paper


def _sorted_papers(papers):
    return sorted(papers, key=paper_text)


def _is_headed(tree, thing):
    """Whether a thing has a word of the papers of a term and as many things as it, whatever they are."""
    if not isinstance(thing, tuple) or len(thing) == 0 or not isinstance(thing[0], str):
        return False
    return thing[0] in WORDS[tree[0]] and len(thing) == SIZES[thing[0]]


def _shown_by(sources, tree, letters, paper):
    """What a thing shows of a tree, None where it is no paper of it."""
    if not _is_headed(tree, paper):
        return None
    if tree[0] == "source":
        return _shown_by_letter(sources, tree, letters, paper[1])
    if tree[0] == "fold":
        return _shown_by_folded(sources, tree, letters, paper)
    parts = parts_of(tree)
    within = {WORDS[tree[0]].index(paper[0]): paper[1]}
    if tree[0] == "join":
        within[1] = paper[2]
    bags = [{} for _ in parts]
    for number, other in within.items():
        shown = _shown_by(sources, parts[number], letters, other)
        if shown is None:
            return None
        bags[number] = {shown: 1}
    if tree[0] == "alone":
        bags[1] = told_of(sources, parts[1], letters)
    made = put_together(tree, [columns_of(sources, part) for part in parts], bags)
    return next(iter(made), None)


def _shown_by_letter(sources, tree, letters, thing):
    if not is_letter(sources, thing) or thing[0] != tree[1] or thing not in letters:
        return None
    return thing[1:]


def _shown_by_folded(sources, tree, letters, paper):
    """The row of the window that papers show, where they are all of it."""
    _, begin, papers = paper
    if not is_whole(begin) or not isinstance(papers, tuple) or len(papers) == 0:
        return None
    shown = [_shown_by(sources, tree[1], letters, other) for other in papers]
    if None in shown or not _are_rising([paper_text(other) for other in papers]):
        return None
    columns = columns_of(sources, tree[1])
    places = [columns.index(key) for key in tree[2]]
    numbers = numbers_at(places, shown[0][1])
    told = folded_rows(tree, told_of(sources, tree, letters)).get((numbers, begin))
    if told is None:
        return None
    behind, many = told[len(places) + 1], told[len(places) + 2]
    for moment, row in shown:
        if not begin <= moment < behind or numbers_at(places, row) != numbers:
            return None
    if sum([much_of(letters, other) for other in papers]) != many:
        return None
    return behind - 1, told


def _are_rising(texts):
    return all([one < other for one, other in zip(texts, texts[1:])])


class Shown:
    """What a term tells of letters, and the papers that show it."""

    def __init__(self, sources, tree, letters):
        self._tree = tree
        self._parts = [Shown(sources, part, letters) for part in parts_of(tree)]
        self._columns = [columns_of(sources, part) for part in parts_of(tree)]
        if tree[0] == "source":
            self.bag = letters_of(tree[1], letters)
        else:
            self.bag = put_together(tree, self._columns, [part.bag for part in self._parts])

    def papers(self, moment, row):
        """All papers that show a row at a moment, in no order that is told."""
        word = self._tree[0]
        if (moment, row) not in self.bag:
            return []
        if word == "source":
            return [("letter", (self._tree[1], moment, row))]
        if word == "shape":
            return self._papers_of_shape(moment, row)
        if word == "join":
            return self._papers_of_join(moment, row)
        if word == "fold":
            return [self._paper_of_fold(row)]
        # A keep, a both or an alone tells the rows of the terms in it as they are.
        found = []
        for number, name in enumerate(WORDS[word]):
            found.extend([(name, paper) for paper in self._parts[number].papers(moment, row)])
        return found

    def _papers_of_shape(self, moment, row):
        found = []
        for pair in self._parts[0].bag:
            if put_together(self._tree, self._columns, [{pair: 1}]) == {(moment, row): 1}:
                found.extend([("shaped", paper) for paper in self._parts[0].papers(pair[0], pair[1])])
        return found

    def _papers_of_join(self, moment, row):
        first, second = self._parts
        wide = len(self._columns[0])
        ones = [(m, first.papers(m, q)) for m, q in first.bag if q == row[:wide]]
        others = [(n, second.papers(n, r)) for n, r in second.bag if r == row[wide:]]
        found = []
        for m, papers in ones:
            for n, papers_beside in others:
                if max(m, n) == moment and self._tree[4] <= n - m <= self._tree[5]:
                    found.extend([("joined", one, other) for one in papers for other in papers_beside])
        return found

    def _paper_of_fold(self, row):
        keys = self._tree[2]
        begin, behind = row[len(keys)], row[len(keys) + 1]
        places = [self._columns[0].index(key) for key in keys]
        papers = []
        for moment, other in self._parts[0].bag:
            if begin <= moment < behind and numbers_at(places, other) == row[:len(keys)]:
                papers.extend(self._parts[0].papers(moment, other))
        return ("folded", begin, tuple(_sorted_papers(papers)))


def _pieces_of(paper):
    """What a paper's text is put together from, in order: texts, and papers yet to be written."""
    word = paper[0]
    if word == "letter":
        name, moment, row = paper[1]
        return [word + "(" + " ".join([name, str(moment), *[str(number) for number in row]]) + ")"]
    if word != "folded":
        return [word + "(", *_listed(paper[1:]), ")"]
    return [f"{word}({paper[1]}: ", *_listed(paper[2]), ")"]


def _listed(papers):
    pieces = []
    for paper in papers:
        pieces.extend([", ", paper])
    return pieces[1:]


def _paper_at(text, at, deep):
    """The paper whose text begins at a place, and the place behind it.

    At most so many papers as deep tells may stand within one another there.
    """
    if deep == 0:
        raise NoText("too many papers stand within one another")
    word = run_at(text, at, LETTERS)
    behind = past(text, at + len(word), "(")
    if word == "letter":
        thing, behind = _letter_at(text, behind)
        return ("letter", thing), past(text, behind, ")")
    if word == "folded":
        begin, behind = plain_number_at(text, behind)
        papers, behind = _papers_at(text, past(text, behind, ": "), deep - 1)
        return ("folded", begin, papers), past(text, behind, ")")
    papers, behind = _papers_at(text, behind, deep - 1)
    if SIZES.get(word) != len(papers) + 1:
        raise NoText("no paper has this word and so many papers in it")
    return (word, *papers), past(text, behind, ")")


def _papers_at(text, at, deep):
    """The papers of a list, one at least, and the place behind them."""
    paper, behind = _paper_at(text, at, deep)
    papers = [paper]
    while text.startswith(", ", behind):
        paper, behind = _paper_at(text, behind + len(", "), deep)
        papers.append(paper)
    return tuple(papers), behind


def _letter_at(text, at):
    name = run_at(text, at, LETTERS)
    if not is_name(name):
        raise NoText("no name stands here")
    moment, behind = plain_number_at(text, past(text, at + len(name), " "))
    number, behind = plain_number_at(text, past(text, behind, " "))
    numbers = [number]
    while text.startswith(" ", behind):
        number, behind = plain_number_at(text, behind + len(" "))
        numbers.append(number)
    return (name, moment, tuple(numbers)), behind
