"""Histories of a thousand happenings and more: of points 61 and stage 8, all that is told of them."""

from lateriver.bags import summed
from lateriver.errors import NoLetter, NoMark
from lateriver.mills import Mill
from lateriver.questions import Question
from lateriver.rivers import River
from tests.asking import slow_answer
from tests.refusals import ANYTHING, RefusalCase
from tests.test_rivers import SlowRiver, told_of

ONE = (("a", (("u", 1),)),)
TWO = ONE + (("b", (("v", 2), ("w", 1))),)
THREE = TWO + (("c", (("x", 5),)),)
LETTERS = [("a", 10, (0,)), ("a", 11, (1,)), ("a", 12, (0,))]


def history(many, last):
    """Letters of three unlike ones, each come and taken back by turns; half-way a mark, behind it late ones by turns."""
    found, stand, turn = [], {}, 0
    while len(found) < many - 1:
        if len(found) == many // 2:
            found.append(("mark", "a", 5))
        elif len(found) > many // 2 and len(found) % 2:
            found.append(("letter", ("a", len(found) % 5, (len(found) % 2,))))
        else:
            one = LETTERS[turn % 3]
            found.append(("back" if stand.get(one) else "letter", one))
            stand[one] = not stand.get(one)
            turn += 1
    return found + [last]


class HistoryTest(RefusalCase):
    def held(self, river, slow, happened):
        """All that a river tells is what the document says of these happenings, and so once more."""
        for _ in range(2):
            self.assertEqual(river.happened(), happened)
            self.assertEqual(river.late(), slow.late)
            self.assertEqual(list(river.standing().items()),
                             [(one, slow.letters.count(one)) for one in sorted(set(slow.letters))])
            self.assertEqual(river.mark("a"), slow.marks.get("a", 0))

    def refused_all(self, river):
        """What is refused is refused with its class, and changes nothing."""
        before = told_of(river)
        for thing in ANYTHING + [
            ("letter", ("a", True, (1,))), ("letter", ("a", 10, (True,))), ("letter", ("a", 10, (2,))), ("letter", ("d", 10, (1,))),
            ("letter", ("a", 10, (1, 1))), ("letter", ["a", 10, (1,)]), ("letter", (["a"], 10, (1,))), ("letter", ("a", -1, (1,))),
            ("back", ("a", 2, (1,))), ("back", ("a", 19, (1,))), ("mark", "d", 50), ("mark", ["a"], 50), ("mark", "a", True), ("end", ["a"]),
        ]:
            self.refused(NoLetter, river.take, thing)
        for thing in [("mark", "a", 5)] + ([("end", "a")] if river.mark("a") is None else [("mark", "a", 0)]):
            self.refused(NoMark, river.take, thing)
        self.assertEqual(told_of(river), before)

    def test_histories(self):
        for sources, many, last in [(ONE, 1010, ("end", "a")), (TWO, 1060, ("mark", "a", 11)), (THREE, 1110, ("end", "a")),
                                    (THREE, 1011, ("mark", "a", 11))]:
            happenings = history(many, last)
            river, mill, slow = River(sources), Mill(sources, [Question(sources, ("source", "a"))]), SlowRiver()
            twins, changes, looked = [], [], 0
            for at, happening in enumerate(happenings):
                counted = slow.take(happening)
                self.assertIs(river.take(happening), counted)
                told = mill.take(happening)
                looks = counted and happening[0] in ("letter", "back")
                looked += looks
                self.assertEqual(told, [[(*happening[1][1:], 1 if happening[0] == "letter" else -1)] if looks else []])
                changes += told[0]
                if at == many // 3:
                    twins.append((river.twin(), told_of(river)))
            twins.append((river.twin(), told_of(river)))
            self.held(river, slow, happenings)
            self.held(mill.river(), slow, happenings)
            for twin, told in twins:
                self.assertEqual(told_of(twin), told)
            self.assertEqual(mill.looked(), looked)
            answer = slow_answer(sources, ("source", "a"), river.standing())
            self.assertEqual((mill.answers(), summed(changes)), ([answer], answer))
            for one in (river, twins[1][0], mill.river()):
                self.refused_all(one)

    def test_twins_of_long_histories_are_apart(self):
        happenings = history(1010, ("mark", "a", 11))
        river = River(THREE)
        for happening in happenings:
            river.take(happening)
        before, twin = told_of(river), river.twin()
        for happening in [("letter", ("a", 11, (1,))), ("letter", ("a", 2, (1,))), ("mark", "b", 3), ("end", "c"), ("mark", "a", 12)]:
            twin.take(happening)
        self.assertEqual(told_of(river), before)
        after = told_of(twin)
        river.take(("letter", ("a", 12, (0,))))
        river.take(("end", "b"))
        self.assertEqual(told_of(twin), after)
