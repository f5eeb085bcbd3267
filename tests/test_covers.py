"""lateriver/covers.py: the fewest letters of which each group has one, which point 121 asks for."""

import itertools
import random
import unittest

from lateriver.covers import least_cover


def slow_cover(groups, counts):
    letters = sorted({letter for group in groups for letter in group})
    found = []
    for many in range(len(letters) + 1):
        for chosen in itertools.combinations(letters, many):
            if all(set(chosen) & set(group) for group in groups):
                found.append((sum(counts[letter] for letter in chosen), chosen))
    return min(found)[1]


class CoverTest(unittest.TestCase):
    def test_few_groups(self):
        counts = {"a": 1, "b": 2, "c": 1, "d": 1}
        for groups, expected in [
            ([], ()), (["a"], ("a",)), (["ab", "ab"], ("a",)), (["ab", "b"], ("b",)), (["ab", "bc"], ("a", "c")),
            (["ab", "bc", "bd"], ("b",)), (["ac", "ad", "cd"], ("a", "c")), (["ab", "cd"], ("a", "c")),
        ]:
            self.assertEqual(least_cover([list(group) for group in groups], counts), expected)

    def test_all_covers(self):
        for number in range(400):
            made = random.Random(number)
            letters = [("a", at) for at in range(made.randint(1, 9))]
            groups = [made.sample(letters, made.randint(1, min(len(letters), 4))) for _ in range(made.randint(1, 10))]
            counts = {letter: made.randint(1, 4) for letter in letters}
            self.assertEqual(least_cover(groups, counts), slow_cover(groups, counts))

    def test_many_letters(self):
        ones, others = [("a", at) for at in range(30)], [("b", at) for at in range(30)]
        counts = {letter: 1 for letter in ones + others}
        for far, many in [(30, 30), (2, 30), (0, 30)]:
            groups = [[one, other] for one in ones for other in others if abs(one[1] - other[1]) <= far]
            self.assertEqual(least_cover(groups, counts), tuple(ones))
        groups = [[one, other] for one, other in itertools.combinations(ones + others, 2)]
        self.assertEqual(len(least_cover(groups, counts)), 59)
