"""Point 13: debates made of other ones."""

import unittest

from objections.debates import Debate
from objections.errors import BadLot, BadNames
from objections.otherdebates import cut_to, joined, renamed, turned, without
from tests.helper import any_objects, long_debate, long_names, not_lists, small_debates, subsets, tiny_debates

DEBATE = Debate(["a", "b", "c"], [("a", "b"), ("b", "a"), ("b", "c"), ("c", "c")])


class TestCut(unittest.TestCase):
    def test_over_small_debates(self):
        for debate in small_debates():
            for lot in subsets(debate.statements()):
                pairs = [(one, other) for one, other in debate.objections() if one in lot and other in lot]
                self.assertEqual(cut_to(debate, lot[::-1]), Debate(lot, pairs))
                others = [name for name in debate.statements() if name not in lot]
                self.assertEqual(without(debate, others), Debate(lot, pairs))

    def test_by_names(self):
        self.assertEqual(cut_to(lot=("c", "b"), debate=DEBATE), Debate(["b", "c"], [("b", "c"), ("c", "c")]))
        self.assertEqual(without(lot=("a",), debate=DEBATE), Debate(["b", "c"], [("b", "c"), ("c", "c")]))
        self.assertEqual(cut_to(DEBATE, []), Debate([], []))
        self.assertEqual(without(DEBATE, []), DEBATE)

    def test_bad_lot(self):
        for ask in (cut_to, without):
            for thing in not_lists():
                with self.assertRaises(BadLot) as caught:
                    ask(DEBATE, thing)
                self.assertEqual(caught.exception.index, 0)
            for lot in (["a", "c", "a", None], ["a", "c", "d"], ["a", "c", ["b"]]):
                with self.assertRaises(BadLot) as caught:
                    ask(DEBATE, lot)
                self.assertEqual(caught.exception.index, 2)

    def test_forty_statements(self):
        self.assertEqual(cut_to(long_debate(), ["n05", "n04"]).objections(), [("n04", "n05")])
        self.assertEqual(len(without(long_debate(), ["n05", "n04"])), 38)


class TestRenamed(unittest.TestCase):
    def test_new_names(self):
        names = {"c": "a", "a": "z", "b": "b1"}
        told = renamed(names=names, debate=DEBATE)
        self.assertEqual(told, Debate(["a", "b1", "z"], [("z", "b1"), ("b1", "z"), ("b1", "a"), ("a", "a")]))
        self.assertEqual(names, {"c": "a", "a": "z", "b": "b1"})
        self.assertEqual(renamed(Debate([], []), {}), Debate([], []))

    def test_there_and_back(self):
        for debate in small_debates():
            names = {name: f"n{at}" for at, name in enumerate(debate.statements())}
            back = {other: name for name, other in names.items()}
            self.assertEqual(renamed(renamed(debate, names), back), debate)

    def test_forty_statements(self):
        names = long_names()
        told = renamed(long_debate(), dict(zip(names, names[::-1])))
        self.assertEqual(told, turned(long_debate()))

    def test_bad_names(self):
        odd = any_objects() + [
            {"a": "x", "b": "y"}, {"a": "x", "b": "y", "c": "x"}, {"a": "x", "b": "y", "c": "z", "d": "w"},
            {"a": "x", "b": "y", "d": "z"}, {"a": "x", "b": "y", "c": "Z"}, {"a": "x", "b": "y", "c": None},
            {"a": "x", "b": "y", "c": ["z"]}, ["x", "y", "z"], {"a": "x", "b": "y", None: "z"},
        ]
        for thing in odd:
            with self.assertRaises(BadNames) as caught:
                renamed(DEBATE, thing)
            self.assertIs(caught.exception.thing, thing)


class TestJoinedAndTurned(unittest.TestCase):
    def test_joined(self):
        one = Debate(["a", "b"], [("a", "b"), ("b", "b")])
        other = Debate(["b", "c"], [("c", "b"), ("b", "b")])
        both = Debate(["a", "b", "c"], [("a", "b"), ("b", "b"), ("c", "b")])
        self.assertEqual(joined(one, other), both)
        self.assertEqual(joined(other=one, one=other), both)
        for debate in tiny_debates():
            self.assertEqual(joined(debate, debate), debate)
            self.assertEqual(joined(debate, Debate([], [])), debate)

    def test_turned(self):
        self.assertEqual(turned(DEBATE), Debate(["a", "b", "c"], [("b", "a"), ("a", "b"), ("c", "b"), ("c", "c")]))
        for debate in small_debates():
            told = turned(debate=debate)
            self.assertEqual(sorted((other, one) for one, other in told.objections()), debate.objections())
            self.assertEqual(turned(told), debate)
