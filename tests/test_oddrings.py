"""Points 28 and 31: odd rings."""

import itertools
import unittest

from objections.debates import Debate
from objections.errors import BadLot, NotGreatest
from objections.labels import labels_of
from objections.lots import fault_of, is_lot, lots_of
from objections.oddrings import is_odd_ring, odd_ring, why_unsettled
from tests.helper import (
    any_objects, drawn_debates, is_ring, long_debate, long_names, not_lists, rings_by_words, small_debates, subsets,
)

EXAMPLE = Debate(["a", "b", "c"], [("a", "b"), ("b", "a"), ("b", "c"), ("c", "c")])
RING = Debate(["a", "b", "c", "d"], [("a", "b"), ("b", "c"), ("c", "a"), ("c", "d"), ("d", "a")])


class TestOddRings(unittest.TestCase):
    def test_example(self):
        self.assertEqual(odd_ring(EXAMPLE), ["c"])
        self.assertEqual(why_unsettled(EXAMPLE, ["a"]), ["c"])

    def test_is_odd_ring(self):
        for thing in (["a", "b", "c"], ("b", "c", "a"), ["c", "a", "b"]):
            self.assertIs(is_odd_ring(RING, thing), True)
        odd = any_objects() + [["a"], ["a", "b"], ["a", "c", "b"], ["a", "b", "c", "d"], ["a", "b", "c", "a", "b", "c"],
                               "abc", {"a": 1, "b": 2, "c": 3}, ["a", "b", "x"], ["a", "b", None], ["a", "b", ["c"]]]
        for thing in odd:
            self.assertIs(is_odd_ring(RING, thing), False)
        self.assertIs(is_odd_ring(thing=["c"], debate=EXAMPLE), True)

    def test_over_small_debates(self):
        for debate in small_debates() + drawn_debates(30, 6, 17):
            odd = [ring for ring in rings_by_words(debate) if len(ring) & 1]
            told = odd_ring(debate)
            self.assertIs(told is None, not odd)
            if told is not None:
                self.assertTrue(is_ring(debate, told) and len(told) & 1)
                self.assertIs(is_odd_ring(debate, told), True)
                self.assertEqual(odd_ring(Debate(debate.statements()[::-1], debate.objections()[::-1])), told)

    def test_each_row_of_statements(self):
        for debate in small_debates()[::7]:
            for many in range(len(debate) + 1):
                for row in itertools.product(debate.statements(), repeat=many):
                    right = many & 1 == 1 and is_ring(debate, row)
                    self.assertIs(is_odd_ring(debate, list(row)), right)

    def test_rings_of_both_lengths(self):
        names = list("abcdefgh")
        for many in range(1, 9):
            debate = Debate(names[:many], [(names[at], names[(at + 1) % many]) for at in range(many)])
            if many & 1:
                self.assertEqual(sorted(odd_ring(debate=debate)), names[:many])
            else:
                self.assertIsNone(odd_ring(debate))

    def test_two_even_rings_with_an_odd_walk_between(self):
        names = list("abcdef")
        even = Debate(names, [("a", "b"), ("b", "a"), ("b", "c"), ("c", "d"), ("d", "c"), ("d", "e")])
        self.assertIsNone(odd_ring(even))
        self.assertIsNone(odd_ring(Debate([], [])))

    def test_forty_statements(self):
        names = long_names()
        chain = long_debate().objections()
        self.assertIsNone(odd_ring(long_debate()))
        self.assertIsNone(odd_ring(Debate(names, chain + [("n39", "n00")])))
        ring = odd_ring(Debate(names, chain + [("n38", "n00"), ("n39", "n00")]))
        self.assertEqual(sorted(ring), names[:39])
        self.assertIs(is_odd_ring(Debate(names, chain + [("n38", "n00")]), names[:39]), True)
        everything = Debate(names, [(one, other) for one in names for other in names if one != other])
        self.assertEqual(len(odd_ring(everything)), 3)


class TestWhyUnsettled(unittest.TestCase):
    def test_over_small_debates(self):
        for debate in small_debates() + drawn_debates(60, 7, 18):
            for lot in lots_of(debate, "greatest"):
                ring = why_unsettled(debate, lot[::-1])
                self.assertIs(ring is None, is_lot(debate, "settled", lot))
                if ring is not None:
                    labels = labels_of(debate, lot)
                    self.assertTrue(is_ring(debate, ring) and len(ring) & 1)
                    self.assertEqual({labels[name] for name in ring}, {"undecided"})
                    other = Debate(debate.statements()[::-1], debate.objections()[::-1])
                    self.assertEqual(why_unsettled(other, tuple(lot)), ring)

    def test_bad_lot(self):
        for thing in not_lists():
            with self.assertRaises(BadLot) as caught:
                why_unsettled(EXAMPLE, thing)
            self.assertEqual(caught.exception.index, 0)
        with self.assertRaises(BadLot) as caught:
            why_unsettled(EXAMPLE, ["c", "a", "c", 5])
        self.assertEqual(caught.exception.index, 2)

    def test_not_greatest(self):
        for debate in small_debates():
            for lot in subsets(debate.statements()):
                fault = fault_of(debate, "greatest", lot)
                if fault is not None:
                    with self.assertRaises(NotGreatest) as caught:
                        why_unsettled(lot=lot, debate=debate)
                    self.assertEqual(caught.exception.fault, fault)
