"""Points 21 and 23: defences."""

import itertools
import unittest

from objections.debates import Debate
from objections.defences import fewest_defence, is_defence
from objections.errors import NoStatement
from objections.lots import least_lot
from objections.ranking import rank_of
from tests.helper import (
    answers, any_objects, calm, cut, drawn_debates, long_debate, long_names, met, not_statements, objects,
    small_debates, subsets,
)

EXAMPLE = Debate(["a", "b", "c", "d", "e"], [("a", "b"), ("b", "c"), ("d", "e"), ("e", "d")])


def is_told(debate, row):
    """Whether in this order to each objector of each member an earlier member objects."""
    return all(
        objects(debate, row[:at], objector) for at, member in enumerate(row) for objector in met(debate, member)
    )


class TestDefences(unittest.TestCase):
    def test_example(self):
        self.assertEqual(fewest_defence(EXAMPLE, "c"), ["a", "c"])
        self.assertIs(is_defence(EXAMPLE, "c", ["c", "a"]), True)
        self.assertIs(is_defence(EXAMPLE, "d", ["d"]), False)

    def test_over_small_debates(self):
        for debate in small_debates():
            lots = subsets(debate.statements())
            told = [lot for lot in lots if any(is_told(debate, row) for row in itertools.permutations(lot))]
            for name in debate.statements():
                found = [lot for lot in told if name in lot]
                for lot in lots:
                    self.assertIs(is_defence(debate, name, lot[::-1]), lot in found)
                first = min(found, key=lambda lot: (len(lot), lot), default=None)
                self.assertEqual(fewest_defence(debate, name), first)

    def test_facts(self):
        for debate in small_debates():
            least = least_lot(debate)
            for name in debate.statements():
                defence = fewest_defence(debate, name)
                self.assertIs(defence is None, rank_of(debate, name) is None)
                self.assertIs(is_defence(debate, name, least), name in least)
                if defence is not None:
                    self.assertTrue(calm(debate, defence))
                    self.assertTrue(all(answers(debate, defence, member) for member in defence))
                    around = set(defence) | {one for member in defence for one in met(debate, member)}
                    self.assertTrue(set(defence) <= set(least_lot(cut(debate, sorted(around)))))

    def test_the_first_of_several(self):
        names = ["a", "b", "c", "d", "m", "n", "s"]
        for objections in (
            [("m", "s"), ("n", "s"), ("a", "m"), ("c", "m"), ("b", "n"), ("d", "n")],
            [("m", "s"), ("n", "s"), ("b", "m"), ("d", "m"), ("a", "n"), ("c", "n")],
        ):
            self.assertEqual(fewest_defence(Debate(names, objections), "s"), ["a", "b", "s"])
            other = {"a": "z", "b": "y", "c": "x", "d": "w", "m": "m", "n": "n", "s": "s"}
            turned = Debate(list(other.values()), [(other[one], other[name]) for one, name in objections])
            self.assertEqual(fewest_defence(turned, "s"), ["s", "w", "x"])
        both = Debate(names, [("m", "s"), ("n", "s"), ("a", "m"), ("b", "n"), ("d", "m"), ("d", "n")])
        self.assertEqual(fewest_defence(both, "s"), ["d", "s"])

    def test_any_object(self):
        odd = [["c"], ["a", "c", "c"], ["a", "x"], {"a": 1, "c": 2}, "ac", ["a"], ["a", "b", "c"]]
        for thing in any_objects() + odd:
            self.assertIs(is_defence(EXAMPLE, "c", thing), False)
        self.assertIs(is_defence(thing=("a", "c"), statement="c", debate=EXAMPLE), True)

    def test_edges(self):
        self.assertIsNone(fewest_defence(Debate(["a"], [("a", "a")]), "a"))
        self.assertIs(is_defence(Debate(["a"], [("a", "a")]), "a", ["a"]), False)
        self.assertEqual(fewest_defence(statement="a", debate=Debate(["a", "b"], [])), ["a"])
        fewest_defence(EXAMPLE, "c").clear()
        self.assertEqual(fewest_defence(EXAMPLE, "c"), ["a", "c"])

    def test_twelve_and_forty(self):
        for debate in drawn_debates(10, 12, 4):
            for name in debate.statements():
                defence = fewest_defence(debate, name)
                self.assertIs(defence is None, rank_of(debate, name) is None)
                self.assertTrue(defence is None or is_defence(debate, name, defence))
        names = long_names()
        self.assertIs(is_defence(long_debate(), "n38", names[:39:2]), True)
        self.assertIs(is_defence(long_debate(), "n38", names[2:39:2]), False)

    def test_no_statement(self):
        for thing in not_statements(EXAMPLE):
            for ask in (lambda name: is_defence(EXAMPLE, name, []), lambda name: fewest_defence(EXAMPLE, name)):
                with self.assertRaises(NoStatement) as caught:
                    ask(thing)
                self.assertIs(caught.exception.thing, thing)
