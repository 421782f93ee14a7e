"""Points 11, 12 and 14: labels, and who stands."""

import unittest

from objections.debates import Debate
from objections.errors import BadHow, BadLot, BadWay, NoStatement, NotWhole
from objections.labels import is_labelling, labels_of, stands
from objections.lots import fault_of, lots_of
from tests.helper import (
    HOWS, WAYS, any_objects, ascending, labellings_by_words, long_debate, long_names, lots_by_words, not_lists,
    not_statements, small_debates, subsets,
)

EXAMPLE = Debate(["a", "b", "c"], [("a", "b"), ("b", "a"), ("b", "c"), ("c", "c")])


class TestLabels(unittest.TestCase):
    def test_example(self):
        self.assertEqual(labels_of(EXAMPLE, ["a"]), {"a": "in", "b": "out", "c": "undecided"})

    def test_whole_lots_and_labellings_are_one_to_one(self):
        for debate in small_debates():
            labellings = labellings_by_words(debate)
            found = [labels_of(debate, lot) for lot in lots_of(debate, "whole")]
            self.assertEqual(len(found), len(labellings))
            for labels in found:
                self.assertIn(labels, labellings)
                self.assertTrue(ascending(labels))
                self.assertIs(is_labelling(debate, labels), True)

    def test_each_dict_of_words(self):
        for debate in small_debates():
            if len(debate) < 4:
                labellings = labellings_by_words(debate)
                for labels in all_dicts(debate.statements()):
                    self.assertIs(is_labelling(debate, labels), labels in labellings)

    def test_any_object(self):
        debate = Debate(["a", "b"], [("a", "b")])
        self.assertTrue(is_labelling(debate, {"b": "out", "a": "in"}))
        odd = any_objects() + [
            {"a": "in"}, {"a": "in", "b": "out", "c": "in"}, {"a": "in", "c": "out"}, {"a": "in", "b": None},
            {"a": ["in"], "b": "out"}, {"a": "in", 1: "out"}, [("a", "in"), ("b", "out")], {"a": True, "b": False},
            {"a": "In", "b": "out"}, {"a": "in", "b": "out", None: "out"},
        ]
        for thing in odd:
            self.assertIs(is_labelling(debate, thing), False)
        self.assertIs(is_labelling(Debate([], []), {}), True)
        self.assertIs(is_labelling(Debate([], []), []), False)

    def test_lot_in_any_order_and_new_dicts(self):
        debate = Debate(["a", "b", "c"], [("a", "b"), ("b", "c")])
        lot = ("c", "a")
        labels = labels_of(lot=lot, debate=debate)
        self.assertEqual(list(labels.items()), [("a", "in"), ("b", "out"), ("c", "in")])
        labels.clear()
        self.assertEqual(len(labels_of(debate, ["c", "a"])), 3)

    def test_bad_lot(self):
        for thing in not_lists():
            with self.assertRaises(BadLot) as caught:
                labels_of(EXAMPLE, thing)
            self.assertEqual(caught.exception.index, 0)
        with self.assertRaises(BadLot) as caught:
            labels_of(EXAMPLE, ["b", "c", "b", "d"])
        self.assertEqual(caught.exception.index, 2)

    def test_not_whole(self):
        for debate in small_debates():
            for lot in subsets(debate.statements()):
                fault = fault_of(debate, "whole", lot)
                if fault is not None:
                    with self.assertRaises(NotWhole) as caught:
                        labels_of(debate, lot)
                    self.assertEqual(caught.exception.fault, fault)

    def test_forty_statements(self):
        names = long_names()
        labels = labels_of(long_debate(), names[::2])
        self.assertEqual(labels, {name: "out" if at & 1 else "in" for at, name in enumerate(names)})
        self.assertTrue(is_labelling(long_debate(), labels))


def all_dicts(names):
    """Each dict from names to the three words."""
    found = [{}]
    for name in names:
        found = [{**labels, name: word} for labels in found for word in ("in", "out", "undecided")]
    return found


class TestStands(unittest.TestCase):
    def test_over_small_debates(self):
        for debate in small_debates():
            for way in WAYS:
                lots = lots_by_words(debate, way)
                for name in debate.statements():
                    told = [name in lot for lot in lots]
                    self.assertIs(stands(debate, way, name, "some"), any(told))
                    self.assertIs(stands(debate, way, name, "all"), all(told))
                    self.assertIs(stands(debate, way, name, "none"), not any(told))

    def test_without_a_settled_lot(self):
        debate = Debate(["a", "b"], [("b", "b")])
        self.assertEqual([stands(debate, "settled", "a", how) for how in HOWS], [False, True, True])
        self.assertEqual([stands(debate, "greatest", "a", how) for how in HOWS], [True, True, False])

    def test_by_names(self):
        self.assertTrue(stands(how="some", statement="a", way="whole", debate=EXAMPLE))

    def test_errors_in_their_order(self):
        for thing in any_objects():
            with self.assertRaises(BadWay) as caught:
                stands(EXAMPLE, thing, None, None)
            self.assertIs(caught.exception.thing, thing)
            with self.assertRaises(BadHow) as caught:
                stands(EXAMPLE, "calm", "a", thing)
            self.assertIs(caught.exception.thing, thing)
        for thing in not_statements(EXAMPLE):
            with self.assertRaises(NoStatement) as caught:
                stands(EXAMPLE, "calm", thing, None)
            self.assertIs(caught.exception.thing, thing)
