"""What several tests ask for: one refusal alone, and things that are of no kind."""

import unittest

from lateriver.errors import RiverError

ANYTHING = [
    None, True, False, 0, 1, -3, 10 ** 30, "", "a", "yes", "x" * 5000, b"a", [], ["a"], (), ("a",),
    ("a", "b"), ("a", "b", "c"), (None,), ((),), ([],), ({},), {}, {"a": 1}, set(), frozenset(),
    object(), int, len, range(3), Ellipsis,
]


class Everything:
    """What says of itself that it is each thing that it is compared with."""

    def __eq__(self, other):
        return True

    def __hash__(self):
        return 0


def deep_tuple(thing, depth=3000):
    """The thing within so many tuples."""
    for _ in range(depth):
        thing = (thing,)
    return thing


class RefusalCase(unittest.TestCase):
    """A test that can ask for one refusal, and no other one."""

    def refused(self, error, function, *told):
        try:
            function(*told)
        except RiverError as caught:
            self.assertIs(type(caught), error)
            self.assertIsInstance(caught, RiverError)
            self.assertIsInstance(caught, ValueError)
            return
        self.fail(f"{function.__name__} refused nothing")
