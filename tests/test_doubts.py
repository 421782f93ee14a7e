"""Points 16 and 23: doubts."""

import unittest

from objections.debates import Debate
from objections.doubts import greatest_doubt, is_doubt, smallest_doubt
from objections.errors import NoStatement
from tests.helper import (
    any_objects, ascending, doubts_by_words, drawn_debates, is_doubt_by_words, long_debate, long_names, met,
    not_statements, ranks_by_words, small_debates, subsets, tiny_debates,
)

EXAMPLE = Debate(["a", "b", "c", "d", "e"], [("a", "b"), ("b", "c"), ("d", "e"), ("e", "d")])


class TestDoubts(unittest.TestCase):
    def test_example(self):
        self.assertEqual(greatest_doubt(EXAMPLE), {"b": "a", "d": "e", "e": "d"})
        self.assertEqual(smallest_doubt(EXAMPLE, "b"), {"b": "a"})
        self.assertIsNone(smallest_doubt(EXAMPLE, "c"))

    def test_just_one_of_rank_and_doubt(self):
        for debate in small_debates():
            doubts = doubts_by_words(debate)
            ranks = ranks_by_words(debate)
            for name in debate.statements():
                sizes = [len(lot) for lot in doubts if name in lot]
                told = smallest_doubt(debate, name)
                self.assertIs(told is None, name in ranks)
                self.assertIs(told is None, not sizes)
                if told is not None:
                    self.assertEqual(len(told), min(sizes))
                    self.assertIn(name, told)
                    self.assertTrue(ascending(told))
                    self.assertTrue(is_doubt_by_words(debate, told))
                    self.assertIs(is_doubt(debate, name, told), True)

    def test_the_same_for_equal_debates(self):
        for debate in small_debates():
            other = Debate(tuple(debate.statements()[::-1]), [list(pair) for pair in debate.objections()[::-1]])
            for name in debate.statements():
                self.assertEqual(smallest_doubt(debate, name), smallest_doubt(other, name))

    def test_greatest_doubt(self):
        for debate in small_debates():
            told = greatest_doubt(debate)
            lacking = [name for name in debate.statements() if name not in ranks_by_words(debate)]
            self.assertEqual(list(told), lacking)
            for member, objector in told.items():
                fit = [one for one in met(debate, member) if all(name in told for name in met(debate, one))]
                self.assertEqual(objector, min(fit))
                self.assertTrue(is_doubt(debate, member, told))

    def test_each_dict_of_statements(self):
        for debate in tiny_debates():
            names = debate.statements()
            for lot in subsets(names):
                rows = [{}]
                for member in lot:
                    rows = [{**row, member: name} for row in rows for name in names]
                for row in rows:
                    for name in names:
                        self.assertIs(is_doubt(debate, name, row), name in row and is_doubt_by_words(debate, row))

    def test_any_object(self):
        odd = any_objects() + [
            {}, {"b": "c"}, {"b": None}, {"b": ["a"]}, {"b": "a", "x": "a"}, {"b": "a", 3: "a"}, {"b": "a", "c": "b"},
            {"d": "e"}, [("b", "a")], {"a": "a", "b": "a"}, {"c": "b", "b": "a"},
        ]
        for thing in odd:
            self.assertIs(is_doubt(EXAMPLE, "b", thing), False)
        self.assertIs(is_doubt(thing={"e": "d", "b": "a", "d": "e"}, statement="b", debate=EXAMPLE), True)
        self.assertIs(is_doubt(EXAMPLE, "d", {"d": "e"}), True)
        self.assertIs(is_doubt(EXAMPLE, "b", {"e": "d", "d": "e"}), False)

    def test_edges(self):
        self.assertEqual(greatest_doubt(Debate([], [])), {})
        loop = Debate(["a"], [("a", "a")])
        self.assertEqual(greatest_doubt(debate=loop), {"a": "a"})
        self.assertEqual(smallest_doubt(statement="a", debate=loop), {"a": "a"})
        self.assertEqual(greatest_doubt(Debate(["a"], [])), {})
        greatest_doubt(loop).clear()
        smallest_doubt(loop, "a").clear()
        self.assertEqual((greatest_doubt(loop), smallest_doubt(loop, "a")), ({"a": "a"}, {"a": "a"}))

    def test_twelve_and_forty(self):
        for debate in drawn_debates(10, 12, 3):
            for name in debate.statements():
                told = smallest_doubt(debate, name)
                self.assertIs(told is None, name not in greatest_doubt(debate))
                self.assertTrue(told is None or is_doubt(debate, name, told))
        names = long_names()
        chain = greatest_doubt(long_debate())
        self.assertEqual(chain, {names[at]: names[at - 1] for at in range(1, 40, 2)})
        self.assertTrue(is_doubt(long_debate(), "n39", chain))
        chain.pop("n01")
        self.assertFalse(is_doubt(long_debate(), "n39", chain))

    def test_no_statement(self):
        for thing in not_statements(EXAMPLE):
            for ask in (lambda name: is_doubt(EXAMPLE, name, {}), lambda name: smallest_doubt(EXAMPLE, name)):
                with self.assertRaises(NoStatement) as caught:
                    ask(thing)
                self.assertIs(caught.exception.thing, thing)
