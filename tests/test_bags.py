"""lateriver/bags.py: point 41."""

import copy
import random
import unittest

from lateriver.bags import added, bag_of, changes_of, less, summed

A = (3, (1, 2))
B = (3, (1, 3))
C = (0, (5,))
D = (12, (-4, 0, 10 ** 20))
E = (12, ())


def random_bag(chance):
    return {pair: chance.choice([-2, -1, 1, 2, 3]) for pair in (A, B, C, D, E) if chance.random() < 0.6}


class BagsTest(unittest.TestCase):
    def test_bag_of(self):
        self.assertEqual(bag_of([]), {})
        self.assertEqual(bag_of([A]), {A: 1})
        self.assertEqual(bag_of([A, B, A, C, A, D, E]), {A: 3, B: 1, C: 1, D: 1, E: 1})

    def test_added(self):
        self.assertEqual(added({}, {}), {})
        self.assertEqual(added({A: 2}, {}), {A: 2})
        self.assertEqual(added({}, {A: -2}), {A: -2})
        self.assertEqual(added({A: 2, B: 1}, {A: 3, C: -1}), {A: 5, B: 1, C: -1})
        self.assertEqual(added({A: 2, B: -3}, {A: -2, B: 2}), {B: -1})
        self.assertEqual(added({A: 2}, {A: -2}), {})

    def test_less(self):
        self.assertEqual(less({}, {}), {})
        self.assertEqual(less({A: 2}, {}), {A: 2})
        self.assertEqual(less({}, {A: 2, B: -1}), {A: -2, B: 1})
        self.assertEqual(less({A: 2, B: 1, D: 1}, {A: 3, C: -1, D: 1}), {A: -1, B: 1, C: 1})
        self.assertEqual(less({A: 2}, {A: 2}), {})

    def test_changes_of(self):
        self.assertEqual(changes_of({}), [])
        self.assertEqual(changes_of({D: -2, B: 1, A: 7, C: 1, E: 3}), [
            (0, (5,), 1), (3, (1, 2), 7), (3, (1, 3), 1), (12, (), 3), (12, (-4, 0, 10 ** 20), -2),
        ])

    def test_summed(self):
        self.assertEqual(summed([]), {})
        self.assertEqual(summed([(3, (1, 2), 4)]), {A: 4})
        self.assertEqual(summed([(3, (1, 2), 4), (0, (5,), -1), (3, (1, 2), -1), (0, (5,), -1)]), {A: 3, C: -2})
        self.assertEqual(summed([(3, (1, 2), 4), (0, (5,), 1), (3, (1, 2), -4)]), {C: 1})
        self.assertEqual(summed([(3, (1, 2), 0)]), {})

    def test_many_bags(self):
        chance = random.Random(1)
        for _ in range(200):
            one, other = random_bag(chance), random_bag(chance)
            before = copy.deepcopy((one, other))
            total, rest = added(one, other), less(one, other)
            for pair in (A, B, C, D, E):
                self.assertEqual(total.get(pair, 0), one.get(pair, 0) + other.get(pair, 0))
                self.assertEqual(rest.get(pair, 0), one.get(pair, 0) - other.get(pair, 0))
            for bag in (total, rest):
                self.assertNotIn(0, bag.values())
                self.assertLessEqual(set(bag), {A, B, C, D, E})
            changes = changes_of(one) + changes_of(other)
            self.assertEqual(changes_of(one), sorted(changes_of(one)))
            chance.shuffle(changes)
            kept = list(changes)
            self.assertEqual(summed(changes), total)
            self.assertEqual(changes, kept)
            self.assertEqual(summed(changes_of(one)), one)
            self.assertEqual((one, other), before)

    def test_what_is_told_is_the_askers_own(self):
        one, other = {A: 2}, {}
        for told in (added(one, other), added(other, one), less(one, other), summed([(3, (1, 2), 2)])):
            self.assertEqual(told, one)
            told[B] = 1
            self.assertEqual((one, other), ({A: 2}, {}))
        changes = changes_of(one)
        changes.append(C)
        self.assertEqual(changes_of(one), [(3, (1, 2), 2)])
        pairs = [A, A]
        bag_of(pairs)[B] = 1
        self.assertEqual(pairs, [A, A])
