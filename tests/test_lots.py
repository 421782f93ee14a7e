"""Points 8, 9, 10 and 14: lots, and their faults."""

import unittest

from objections.debates import Debate
from objections.errors import BadLot, BadWay
from objections.lots import answered, fault_of, is_lot, least_lot, lots_of
from tests import helper
from tests.helper import WAYS, any_objects, long_debate, long_names, lots_by_words, not_lists, small_debates, subsets

EXAMPLE = Debate(["a", "b", "c"], [("a", "b"), ("b", "a"), ("b", "c"), ("c", "c")])


def fault_by_words(debate, way, lot):
    """The first fault, straight from the words of point 10."""
    names = debate.statements()
    for one in sorted(lot):
        for other in sorted(lot):
            if (one, other) in debate.objections():
                return ("clash", one, other)
    if way not in ("calm", "settled"):
        for member in sorted(lot):
            for objector in sorted(helper.met(debate, member)):
                if not helper.objects(debate, lot, objector):
                    return ("unanswered", member, objector)
    if way in ("whole", "least", "greatest"):
        for name in names:
            if name not in lot and helper.answers(debate, lot, name):
                return ("lacks", name)
    if way == "settled":
        for name in names:
            if name not in lot and not helper.objects(debate, lot, name):
                return ("spared", name)
    if way == "least" and sorted(lot) != lots_by_words(debate, "least")[0]:
        return ("least", lots_by_words(debate, "least")[0])
    if way == "greatest" and sorted(lot) not in lots_by_words(debate, "greatest"):
        return ("greater", [top for top in lots_by_words(debate, "greatest") if set(lot) <= set(top)][0])
    return None


class TestExample(unittest.TestCase):
    def test_lots(self):
        self.assertEqual(least_lot(EXAMPLE), [])
        self.assertEqual(lots_of(EXAMPLE, "least"), [[]])
        self.assertEqual(lots_of(EXAMPLE, "whole"), [[], ["a"], ["b"]])
        self.assertEqual(lots_of(EXAMPLE, "greatest"), [["a"], ["b"]])
        self.assertEqual(lots_of(EXAMPLE, "settled"), [["b"]])

    def test_fault(self):
        self.assertEqual(fault_of(EXAMPLE, "settled", ["a"]), ("spared", "c"))


class TestLots(unittest.TestCase):
    def test_all_ways_over_small_debates(self):
        for debate in small_debates():
            for way in WAYS:
                found = lots_by_words(debate, way)
                self.assertEqual(lots_of(debate, way), found)
                for lot in subsets(debate.statements()):
                    self.assertIs(is_lot(debate, way, lot), lot in found)

    def test_facts(self):
        for debate in small_debates():
            lots = {way: lots_of(debate, way) for way in WAYS}
            self.assertEqual(lots["least"], [least_lot(debate)])
            for lot in lots["held"]:
                self.assertTrue(any(set(lot) <= set(top) for top in lots["greatest"]))
            for narrow, wide in [("settled", "greatest"), ("greatest", "whole"), ("whole", "held"), ("held", "calm")]:
                for lot in lots[narrow]:
                    self.assertIn(lot, lots[wide])

    def test_answered(self):
        for debate in small_debates():
            for lot in subsets(debate.statements()):
                told = [name for name in debate.statements() if helper.answers(debate, lot, name)]
                self.assertEqual(answered(debate, lot[::-1]), told)

    def test_no_statements(self):
        debate = Debate([], [])
        for way in WAYS:
            self.assertEqual(lots_of(debate, way), [[]])
            self.assertIsNone(fault_of(debate, way, []))
        self.assertEqual((answered(debate, []), least_lot(debate)), ([], []))

    def test_one_that_objects_to_itself(self):
        debate = Debate(["a"], [("a", "a")])
        self.assertEqual([lots_of(debate, way) for way in WAYS], [[[]], [[]], [[]], [[]], [[]], []])

    def test_by_names_and_in_any_order(self):
        debate = Debate(["a", "b", "c"], [("a", "b"), ("b", "c")])
        self.assertEqual(answered(lot=("c", "a"), debate=debate), ["a", "c"])
        self.assertTrue(is_lot(thing=("c", "a"), way="settled", debate=debate))
        self.assertEqual(lots_of(way="whole", debate=debate), [["a", "c"]])
        self.assertIsNone(fault_of(lot=("c", "a"), way="greatest", debate=debate))
        self.assertEqual(fault_of(debate, "calm", ["c", "b", "a"]), ("clash", "a", "b"))

    def test_lot_is_not_changed_and_told_ones_are_new(self):
        lot = ["c", "a"]
        debate = Debate(["a", "b", "c"], [("a", "b"), ("b", "c")])
        answered(debate, lot)
        fault_of(debate, "least", lot)
        self.assertEqual(lot, ["c", "a"])
        lots_of(debate, "whole")[0].clear()
        least_lot(debate).clear()
        answered(debate, lot).clear()
        self.assertEqual(least_lot(debate), ["a", "c"])
        self.assertEqual(lots_of(debate, "whole"), [["a", "c"]])

    def test_any_object_as_a_lot(self):
        debate = Debate(["a", "zz9"], [])
        for way in WAYS:
            for thing in any_objects() + [["a", "a"], ["a", None], [["a"]], "a", {"a": 1}, ["b"], ["a", ["zz9"]]]:
                if thing != [] and thing != ():
                    self.assertIs(is_lot(debate, way, thing), False)
            self.assertIs(is_lot(debate, way, ["zz9", "a"]), True)
            self.assertIs(is_lot(debate, way, []), way in ("calm", "held"))

    def test_twelve_statements(self):
        names = list("abcdefghijkl")
        still = Debate(names, [])
        self.assertEqual(len(lots_of(still, "calm")), 4096)
        self.assertEqual(lots_of(still, "greatest"), [names])
        pairs = [(names[at], names[at + 1]) for at in range(0, 12, 2)]
        both = Debate(names, pairs + [(other, one) for one, other in pairs])
        self.assertEqual(len(lots_of(both, "whole")), 3 ** 6)
        self.assertEqual(len(lots_of(both, "greatest")), 2 ** 6)
        self.assertEqual(lots_of(both, "settled"), lots_of(both, "greatest"))
        self.assertFalse(is_lot(both, "greatest", ["a", "c"]))
        self.assertEqual(fault_of(both, "greatest", ["b"]), ("greater", list("bcegik")))

    def test_forty_statements(self):
        debate = long_debate()
        lot = long_names()[::2]
        self.assertEqual(least_lot(debate), lot)
        self.assertEqual(answered(debate, ["n00"]), ["n00", "n02"])
        for way in ["calm", "held", "whole", "settled"]:
            self.assertTrue(is_lot(debate, way, lot[::-1]))
            self.assertIsNone(fault_of(debate, way, lot))
        self.assertEqual(fault_of(debate, "whole", lot[:-1]), ("lacks", "n38"))
        self.assertEqual(fault_of(debate, "settled", lot[:-1]), ("spared", "n38"))
        self.assertEqual(fault_of(debate, "held", ["n02"]), ("unanswered", "n02", "n01"))
        self.assertEqual(fault_of(debate, "calm", ["n39", "n38"]), ("clash", "n38", "n39"))


class TestFaults(unittest.TestCase):
    def test_all_ways_over_small_debates(self):
        for debate in small_debates():
            for way in WAYS:
                for lot in subsets(debate.statements()):
                    told = fault_of(debate, way, lot[::-1])
                    self.assertEqual(told, fault_by_words(debate, way, lot), (debate.objections(), way, lot))
                    self.assertIs(told is None, is_lot(debate, way, lot))

    def test_each_kind(self):
        chain = Debate(["a", "b", "c"], [("a", "b"), ("b", "c")])
        self.assertEqual(fault_of(chain, "held", ["b"]), ("unanswered", "b", "a"))
        self.assertEqual(fault_of(chain, "held", ["c"]), ("unanswered", "c", "b"))
        self.assertEqual(fault_of(chain, "whole", ["a"]), ("lacks", "c"))
        self.assertEqual(fault_of(EXAMPLE, "least", ["b"]), ("least", []))
        self.assertEqual(fault_of(EXAMPLE, "greatest", []), ("greater", ["a"]))
        self.assertEqual(fault_of(EXAMPLE, "calm", ["c"]), ("clash", "c", "c"))


class TestErrors(unittest.TestCase):
    def test_bad_way(self):
        for ask in (lambda way: is_lot(EXAMPLE, way, None), lambda way: lots_of(EXAMPLE, way),
                    lambda way: fault_of(EXAMPLE, way, None)):
            for thing in any_objects() + ["Calm", "tops", ["calm"]]:
                with self.assertRaises(BadWay) as caught:
                    ask(thing)
                self.assertIs(caught.exception.thing, thing)

    def test_bad_lot(self):
        for ask in [lambda lot: answered(EXAMPLE, lot)] + [
                lambda lot, way=way: fault_of(EXAMPLE, way, lot) for way in WAYS]:
            for thing in not_lists():
                with self.assertRaises(BadLot) as caught:
                    ask(thing)
                self.assertEqual(caught.exception.index, 0)
            for thing in any_objects() + ["d"]:
                index = 2 if thing != "a" else 0
                lot = ["c", "b", thing, "b"] if thing != "a" else [None, "a"]
                with self.assertRaises(BadLot) as caught:
                    ask(lot)
                self.assertEqual(caught.exception.index, index)
            with self.assertRaises(BadLot) as caught:
                ask(("a", "b", "a", None))
            self.assertEqual(caught.exception.index, 2)
