"""Points 15, 22 and 23: ranks, stages, and the ring that is left."""

import unittest

from objections.debates import Debate
from objections.errors import NoStatement
from objections.labels import labels_of
from objections.lots import answered, is_lot, least_lot, lots_of
from objections.ranking import left_ring, rank_of, ranks_of, stages
from tests.helper import (
    ascending, is_ring, long_debate, long_names, met, not_statements, ranks_by_words, rings_by_words, small_debates,
)

EXAMPLE = Debate(["a", "b", "c", "d", "e"], [("a", "b"), ("b", "c"), ("d", "e"), ("e", "d")])


class TestRanks(unittest.TestCase):
    def test_example(self):
        self.assertEqual(ranks_of(EXAMPLE), {"a": 0, "c": 1})
        self.assertEqual(stages(EXAMPLE), [["a"], ["a", "c"]])
        self.assertEqual([rank_of(EXAMPLE, name) for name in "abcde"], [0, None, 1, None, None])

    def test_over_small_debates(self):
        for debate in small_debates():
            ranks = ranks_by_words(debate)
            self.assertEqual(ranks_of(debate), ranks)
            self.assertTrue(ascending(ranks_of(debate)))
            for name in debate.statements():
                self.assertEqual(rank_of(debate, name), ranks.get(name))

    def test_facts(self):
        for debate in small_debates():
            self.assertEqual(list(ranks_of(debate)), least_lot(debate))
            told = stages(debate)
            self.assertEqual(told[0], answered(debate, []))
            for ahead, stage in zip(told, told[1:]):
                self.assertEqual(stage, answered(debate, ahead))
                self.assertLess(len(ahead), len(stage))
            ranks = ranks_by_words(debate)
            for number, stage in enumerate(told):
                self.assertEqual(stage, [name for name in ranks if ranks[name] <= number])
            self.assertEqual(len(told), 1 + max(ranks.values(), default=0))

    def test_nobody_has_one(self):
        self.assertEqual(stages(Debate([], [])), [[]])
        self.assertEqual(ranks_of(Debate([], [])), {})
        ring = Debate(["a", "b"], [("a", "b"), ("b", "a")])
        self.assertEqual((stages(ring), ranks_of(ring), rank_of(ring, "a")), ([[]], {}, None))
        self.assertIsNone(rank_of(Debate(["a"], [("a", "a")]), "a"))

    def test_new_each_time_and_by_names(self):
        stages(EXAMPLE)[0].clear()
        ranks_of(debate=EXAMPLE).clear()
        self.assertEqual(stages(debate=EXAMPLE), [["a"], ["a", "c"]])
        self.assertEqual(ranks_of(EXAMPLE), {"a": 0, "c": 1})
        self.assertEqual(rank_of(statement="c", debate=EXAMPLE), 1)

    def test_no_statement(self):
        for thing in not_statements(EXAMPLE):
            with self.assertRaises(NoStatement) as caught:
                rank_of(EXAMPLE, thing)
            self.assertIs(caught.exception.thing, thing)

    def test_forty_statements(self):
        names = long_names()
        self.assertEqual(ranks_of(long_debate()), {name: at for at, name in enumerate(names[::2])})
        self.assertEqual(len(stages(long_debate())), 20)


class TestLeftRing(unittest.TestCase):
    def test_example(self):
        self.assertIn(left_ring(EXAMPLE), [["d", "e"], ["e", "d"]])

    def test_just_one(self):
        for debate in small_debates():
            ring = left_ring(debate)
            least = least_lot(debate)
            self.assertIs(ring is None, is_lot(debate, "settled", least))
            if ring is not None:
                labels = labels_of(debate, least)
                self.assertTrue(is_ring(debate, ring))
                self.assertEqual([labels[name] for name in ring], ["undecided"] * len(ring))
                self.assertEqual(left_ring(Debate(debate.statements()[::-1], debate.objections()[::-1])), ring)

    def test_facts(self):
        for debate in small_debates():
            if not rings_by_words(debate):
                self.assertIsNone(left_ring(debate))
                self.assertEqual(len(lots_of(debate, "whole")), 1)
            if left_ring(debate) is not None:
                ranks = ranks_of(debate)
                self.assertTrue([
                    name for name in debate.statements()
                    if name not in ranks and not any(one in ranks for one in met(debate, name))
                ])

    def test_one_alone_none_and_forty(self):
        self.assertEqual(left_ring(debate=Debate(["a", "b"], [("b", "b")])), ["b"])
        self.assertIsNone(left_ring(Debate([], [])))
        names = long_names()
        self.assertIsNone(left_ring(long_debate()))
        ring = left_ring(Debate(names, long_debate().objections() + [("n39", "n00")]))
        self.assertEqual(sorted(ring), names)
        at = ring.index("n00")
        self.assertEqual(ring[at:] + ring[:at], names)
        ring.clear()
        self.assertEqual(left_ring(Debate(["a"], [("a", "a")])), ["a"])
