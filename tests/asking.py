"""Sources, questions and happenings made by the dozen, and a slow reading of questions to hold others against.

The slow reading goes by the words of the document: each letter stands there as often as its count
tells, and each term is a list of (moment, row), with as many like ones as there are.
"""

import itertools
import operator
import random

WORTHS = {
    "sum": operator.add, "less": operator.sub, "least": min, "most": max,
    "is": operator.eq, "below": operator.lt,
}

ONE = (("rain", (("x", 1), ("y", 1))),)
TWO = (("rain", (("x", 1), ("y", 2))), ("wind", (("z", 1),)))
THREE = (("rain", (("x", 1),)), ("wind", (("y", 1),)), ("snow", (("z", 1),)))


def source_columns(sources, name):
    return [column for column, _ in dict(sources)[name]]


def slow_columns(sources, tree):
    word = tree[0]
    if word == "source":
        return source_columns(sources, tree[1])
    if word in ("keep", "both", "alone"):
        return slow_columns(sources, tree[1])
    if word == "shape":
        return [name for name, _ in tree[2]]
    if word == "join":
        return slow_columns(sources, tree[1]) + slow_columns(sources, tree[2])
    return list(tree[2]) + ["begin", "behind", "many"] + [name for name, _, _ in tree[4]]


def slow_worth(term, numbers):
    word = term[0]
    if word == "column":
        return numbers[term[1]]
    if word == "number":
        return term[1]
    if word == "yes":
        return True
    if word == "not":
        return not slow_worth(term[1], numbers)
    one, other = slow_worth(term[1], numbers), slow_worth(term[2], numbers)
    if word == "all":
        return one and other
    if word == "any":
        return one or other
    return WORTHS[word](one, other)


def slow_list(sources, tree, letters):
    """All (moment, row) of a term, with as many like ones as there are."""
    word = tree[0]
    if word == "source":
        return [(m, row) for (name, m, row), count in letters.items() if name == tree[1] for _ in range(count)]
    first = slow_list(sources, tree[1], letters)
    columns = slow_columns(sources, tree[1])
    named = [(m, row, dict(zip(columns, row))) for m, row in first]
    if word == "keep":
        return [(m, row) for m, row, numbers in named if slow_worth(tree[2], numbers)]
    if word == "shape":
        return [(m, tuple(slow_worth(part, numbers) for _, part in tree[2])) for m, row, numbers in named]
    if word == "both":
        return first + slow_list(sources, tree[2], letters)
    if word == "fold":
        return slow_fold(tree, named)
    others = slow_columns(sources, tree[2])
    second = [(n, row, dict(zip(others, row))) for n, row in slow_list(sources, tree[2], letters)]

    def are_partners(m, numbers, n, other):
        return tree[4] <= n - m <= tree[5] and all(numbers[a] == other[b] for a, b in tree[3])

    if word == "join":
        return [
            (max(m, n), q + r) for m, q, numbers in named for n, r, other in second
            if are_partners(m, numbers, n, other)
        ]
    return [
        (m, q) for m, q, numbers in named
        if not any(are_partners(m, numbers, n, other) for n, _, other in second)
    ]


def slow_windows(window, moments):
    """Where each window begins and what is behind it, by going through all moments there are."""
    if not moments:
        return []
    last = max(moments)
    if window[0] == "pane":
        return [(begin, begin + window[1]) for begin in range(last + 1) if begin % window[1] == 0]
    if window[0] == "slide":
        return [(begin, begin + window[1]) for begin in range(last + 1) if begin % window[2] == 0]
    begins = [m for m in moments if not any(m - window[1] <= other < m for other in moments)]
    found = []
    for begin in begins:
        end = begin
        while any(end < other <= end + window[1] for other in moments):
            end = min(other for other in moments if other > end)
        found.append((begin, end + 1))
    return found


def slow_fold(tree, named):
    _, _, keys, window, sums = tree
    found = []
    for key in {tuple(numbers[name] for name in keys) for _, _, numbers in named}:
        mine = [(m, numbers) for m, _, numbers in named if tuple(numbers[name] for name in keys) == key]
        for begin, behind in sorted(set(slow_windows(window, [m for m, _ in mine]))):
            within = [numbers for m, numbers in mine if begin <= m < behind]
            if within:
                told = [{"sum": sum, "least": min, "most": max}[word]([numbers[name] for numbers in within])
                        for _, word, name in sums]
                found.append((behind - 1, key + (begin, behind, len(within)) + tuple(told)))
    return found


def slow_answer(sources, tree, letters):
    bag = {}
    for pair in slow_list(sources, tree, letters):
        bag[pair] = bag.get(pair, 0) + 1
    return bag


def slow_rows(sources, tree):
    """All rows that a flat term can tell, whatever the moments, with many like ones maybe."""
    word = tree[0]
    if word == "source":
        return list(itertools.product(*[range(top + 1) for _, top in dict(sources)[tree[1]]]))
    first = slow_rows(sources, tree[1])
    named = [(row, dict(zip(slow_columns(sources, tree[1]), row))) for row in first]
    if word == "keep":
        return [row for row, numbers in named if slow_worth(tree[2], numbers)]
    if word == "shape":
        return [tuple(slow_worth(part, numbers) for _, part in tree[2]) for _, numbers in named]
    if word == "both":
        return first + slow_rows(sources, tree[2])
    others = slow_columns(sources, tree[2])
    return [
        q + r for q, numbers in named for r in slow_rows(sources, tree[2])
        if all(numbers[a] == dict(zip(others, r))[b] for a, b in tree[3])
    ]


def slow_ways(sources, tree, moment, row):
    """The set of the ways, each a frozenset of letters, in which a flat term's spot can stand."""
    word = tree[0]
    if word == "source":
        return {frozenset([(tree[1], moment, row)])} if row in slow_rows(sources, tree) else set()
    if word == "both":
        return slow_ways(sources, tree[1], moment, row) | slow_ways(sources, tree[2], moment, row)
    columns = slow_columns(sources, tree[1])
    if word == "keep":
        return slow_ways(sources, tree[1], moment, row) if slow_worth(tree[2], dict(zip(columns, row))) else set()
    if word == "shape":
        made = [
            q for q in set(slow_rows(sources, tree[1]))
            if tuple(slow_worth(part, dict(zip(columns, q))) for _, part in tree[2]) == row
        ]
        return {way for q in made for way in slow_ways(sources, tree[1], moment, q)}
    q, r = row[:len(columns)], row[len(columns):]
    mine, others = dict(zip(columns, q)), dict(zip(slow_columns(sources, tree[2]), r))
    if any(mine[a] != others[b] for a, b in tree[3]):
        return set()
    return {
        one | other for m in range(moment + 1) for n in range(moment + 1)
        if max(m, n) == moment and tree[4] <= n - m <= tree[5]
        for one in slow_ways(sources, tree[1], m, q) for other in slow_ways(sources, tree[2], n, r)
    }


class Maker:
    """What makes questions, letters and happenings, the same ones of the same number."""

    def __init__(self, number, sources=None):
        self.random = random.Random(number)
        self.sources = self.random.choice([ONE, TWO, THREE]) if sources is None else sources
        self.names = 0

    def name(self):
        self.names += 1
        return "n" + "abcdefghij"[self.names // 10 % 10] + "abcdefghij"[self.names % 10]

    def reckoning(self, columns, deep=2):
        if deep == 0 or self.random.random() < 0.5:
            if self.random.random() < 0.75:
                return ("column", self.random.choice(columns))
            return ("number", self.random.randint(-2, 3))
        word = self.random.choice(["sum", "less", "least", "most"])
        return (word, self.reckoning(columns, deep - 1), self.reckoning(columns, deep - 1))

    def condition(self, columns, deep=2):
        word = self.random.choice(["is", "below", "below"] + (["all", "any", "any", "not", "yes"] if deep else []))
        if word == "yes":
            return ("yes",)
        if word == "not":
            return ("not", self.condition(columns, deep - 1))
        if word in ("all", "any"):
            return (word, self.condition(columns, deep - 1), self.condition(columns, deep - 1))
        return (word, self.reckoning(columns, 1), self.reckoning(columns, 1))

    def source(self):
        return ("source", self.random.choice(self.sources)[0])

    def shape(self, part, many=None):
        columns = slow_columns(self.sources, part)
        many = self.random.randint(1, 2) if many is None else many
        return ("shape", part, tuple((self.name(), self.reckoning(columns, 1)) for _ in range(many)))

    def flat(self, deep=3, joins=2):
        """A flat tree of at most so many terms and joins on one way down."""
        words = ["source"]
        if deep > 1:
            words += ["keep", "keep", "shape", "both"] + (["join", "join", "join"] if joins and deep > 2 else [])
        word = self.random.choice(words)
        if word == "source":
            return self.source()
        if word == "keep":
            part = self.flat(deep - 1, joins)
            return ("keep", part, self.condition(slow_columns(self.sources, part)))
        if word == "shape":
            return self.shape(self.flat(deep - 1, joins))
        if word == "both":
            return self.both(self.flat(deep - 1, joins), joins)
        part = self.flat(deep - 1, joins - 1)
        return ("join", part) + self.partners(part, self.shape(self.flat(deep - 2, joins - 1)))

    def big_flat(self, deep):
        """A flat tree of the most terms within one another that a question may have."""
        while True:
            tree = self.flat(deep)
            if many_terms(tree) <= 12 and deepest(tree) <= 6:
                return tree

    def both(self, part, joins):
        """A both of the tree and one that tells like columns of another one, by a shape."""
        columns = slow_columns(self.sources, part)
        other = self.random.choice([part, self.source()])
        told = slow_columns(self.sources, other)
        shaped = ("shape", other, tuple((name, self.reckoning(told, 1)) for name in columns))
        return ("both", part, self.random.choice([part, shaped, shaped]))

    def partners(self, one, other):
        mine, others = slow_columns(self.sources, one), slow_columns(self.sources, other)
        pairs = tuple((self.random.choice(mine), self.random.choice(others)) for _ in range(self.random.randint(0, 1)))
        low = self.random.randint(-3, 2)
        return (other, pairs, low, low + self.random.randint(0, 3))

    def alone(self, deep=2, joins=1):
        part = self.flat(deep, joins)
        return ("alone", part) + self.partners(part, self.flat(deep, joins))

    def fold(self, deep=3, joins=2, windows=("pane", "slide", "visit")):
        part = self.flat(deep, joins)
        columns = slow_columns(self.sources, part)
        keys = tuple(self.random.sample(columns, self.random.randint(0, min(2, len(columns)))))
        word = self.random.choice(windows)
        window = (word, self.random.randint(1, 4))
        if word == "slide":
            window += (self.random.randint(1, 4),)
        sums = tuple(
            (self.name(), self.random.choice(["sum", "least", "most"]), self.random.choice(columns))
            for _ in range(self.random.randint(0, 2))
        )
        return ("fold", part, keys, window, sums)

    def tree(self):
        """A tree of any sort: flat, an alone, a fold, or keeps, shapes and boths of these."""
        tree = self.random.choice([self.flat, self.alone, self.fold])()
        for _ in range(self.random.randint(0, 2)):
            columns = slow_columns(self.sources, tree)
            word = self.random.choice(["keep", "shape", "both"])
            if word == "keep":
                tree = ("keep", tree, self.condition(columns))
            elif word == "shape":
                tree = self.shape(tree)
            elif many_terms(tree) < 6:
                tree = ("both", tree, ("keep", tree, self.condition(columns)))
        return tree if many_terms(tree) <= 12 and deepest(tree) <= 6 else self.tree()

    def letter(self, last=9):
        name, columns = self.random.choice(self.sources)
        return (name, self.random.randint(0, last), tuple(self.random.randint(0, top) for _, top in columns))

    def letters(self, many=8, last=9):
        found = {}
        for _ in range(self.random.randint(0, many)):
            letter = self.letter(last)
            found[letter] = found.get(letter, 0) + 1
        return found

    def happenings(self, river, many=12, last=9):
        """Happenings that this river takes one by one: letters, late ones too, backs, marks and ends."""
        river = river.twin()
        for _ in range(many):
            happening = self.happening(river, last)
            if happening is not None:
                river.take(happening)
        return river.happened()

    def happening(self, river, last=9):
        word = self.random.choice(["letter"] * 12 + ["back"] * 4 + ["mark"] * 3 + ["end"])
        if word == "letter":
            return ("letter", self.letter(last))
        if word == "back":
            open_ones = [letter for letter in river.standing() if river.is_open(letter)]
            return ("back", self.random.choice(open_ones)) if open_ones else None
        name = self.random.choice(self.sources)[0]
        if river.mark(name) is None:
            return None
        if word == "mark":
            return ("mark", name, river.mark(name) + self.random.randint(1, 3))
        return ("end", name) if self.random.random() < 0.3 else None


def parts_of(tree):
    return {"source": (), "keep": tree[1:2], "shape": tree[1:2], "fold": tree[1:2]}.get(tree[0], tree[1:3])


def many_terms(tree):
    return 1 + sum(many_terms(part) for part in parts_of(tree))


def deepest(tree):
    return 1 + max([deepest(part) for part in parts_of(tree)], default=0)
