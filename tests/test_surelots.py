"""Points 29, 30 and 31: what is in all greatest lots, and sure lots."""

import unittest

from objections.debates import Debate
from objections.errors import BadLot, NoStatement, NotHeld
from objections.lots import fault_of, is_lot, least_lot
from objections.surelots import is_sure, lacking_lot, sure_lot, sure_lots, sure_paper, why_unsure
from tests.helper import (
    any_objects, drawn_debates, lots_by_words, met, not_lists, not_statements, small_debates, subsets,
)

EXAMPLE = Debate(["a", "b", "c"], [("a", "b"), ("b", "a"), ("b", "c"), ("c", "c")])
# c, to which a and b object, is in no held lot: so d is sure.
SURE = Debate(["a", "b", "c", "d"], [("a", "b"), ("b", "a"), ("a", "c"), ("b", "c"), ("c", "d"), ("d", "c")])


def sure_by_words(debate):
    held = lots_by_words(debate, "held")
    return [
        lot for lot in held
        if not any(one in other for member in lot for one in met(debate, member) for other in held)
    ]


class TestSureLots(unittest.TestCase):
    def test_example(self):
        self.assertEqual(sure_lots(EXAMPLE), [[]])
        self.assertEqual(lacking_lot(EXAMPLE, "b"), ["a"])

    def test_over_small_debates(self):
        for debate in small_debates():
            sure = sure_by_words(debate)
            self.assertEqual(sure_lots(debate), sure)
            self.assertEqual([sure_lot(debate)], [lot for lot in sure if all(set(one) <= set(lot) for one in sure)])
            for lot in subsets(debate.statements()):
                self.assertIs(is_sure(debate, lot[::-1]), lot in sure)

    def test_facts(self):
        for debate in small_debates() + drawn_debates(30, 7, 19):
            sure = sure_lots(debate)
            greatest = lots_by_words(debate, "greatest")
            told = sure_lot(debate)
            for one in sure:
                for other in sure:
                    self.assertIn(sorted(set(one) | set(other)), sure)
            self.assertTrue(is_lot(debate, "whole", told))
            self.assertTrue(set(least_lot(debate)) <= set(told))
            self.assertTrue(all(set(told) <= set(top) for top in greatest))
            common = [lot for lot in lots_by_words(debate, "held") if all(set(lot) <= set(top) for top in greatest)]
            self.assertEqual(told, max(common, key=len))
            self.assertTrue(all(set(lot) <= set(told) for lot in common))

    def test_in_all_greatest_and_not_sure(self):
        debate = Debate(
            ["a", "b", "c", "d"], [("a", "b"), ("b", "a"), ("a", "c"), ("b", "c"), ("c", "d")],
        )
        self.assertEqual(lots_by_words(debate, "greatest"), [["a", "d"], ["b", "d"]])
        self.assertIsNone(lacking_lot(debate, "d"))
        self.assertEqual(sure_lot(debate), [])
        self.assertEqual(sure_lot(SURE), ["d"])

    def test_lacking_lot(self):
        for debate in small_debates():
            for name in debate.statements():
                lots = [lot for lot in lots_by_words(debate, "greatest") if name not in lot]
                self.assertEqual(lacking_lot(debate, name), lots[0] if lots else None)

    def test_any_object(self):
        for thing in any_objects() + [["d", "d"], ["c"], ["a"], "d", {"d": 1}, ["d", None], ["x"]]:
            self.assertIs(is_sure(SURE, thing), thing in ([], ()))
        self.assertIs(is_sure(thing=("d",), debate=SURE), True)

    def test_no_statements_and_new_each_time(self):
        debate = Debate([], [])
        self.assertEqual((sure_lots(debate), sure_lot(debate)), ([[]], []))
        sure_lots(SURE)[1].clear()
        sure_lot(debate=SURE).clear()
        self.assertEqual(sure_lots(debate=SURE), [[], ["d"]])
        self.assertEqual(sure_lot(SURE), ["d"])

    def test_no_statement(self):
        for thing in not_statements(EXAMPLE):
            for ask in (lacking_lot, sure_paper):
                with self.assertRaises(NoStatement) as caught:
                    ask(EXAMPLE, thing)
                self.assertIs(caught.exception.thing, thing)


class TestPapers(unittest.TestCase):
    def test_sure_paper(self):
        for debate in small_debates():
            for name in debate.statements():
                lots = [lot for lot in sure_by_words(debate) if name in lot]
                self.assertEqual(sure_paper(debate, name), min(lots, key=lambda lot: (len(lot), lot), default=None))
        self.assertEqual(sure_paper(statement="d", debate=SURE), ["d"])

    def test_why_unsure(self):
        for debate in small_debates():
            held = lots_by_words(debate, "held")
            some = {name for lot in held for name in lot}
            for lot in held:
                rows = [(member, one) for member in lot for one in met(debate, member) if one in some]
                told = why_unsure(debate, lot[::-1])
                self.assertIs(told is None, is_sure(debate, lot))
                if rows:
                    member, objector = min(rows)
                    paper = min([other for other in held if objector in other], key=lambda row: (len(row), row))
                    self.assertEqual(told, (member, objector, paper))

    def test_just_one(self):
        for debate in small_debates():
            for name in debate.statements():
                held = [lot for lot in lots_by_words(debate, "held") if name in lot]
                told = [why_unsure(debate, lot) for lot in held]
                self.assertIs(sure_paper(debate, name) is None, all(row is not None for row in told))

    def test_bad_lot(self):
        for thing in not_lists():
            with self.assertRaises(BadLot) as caught:
                why_unsure(EXAMPLE, thing)
            self.assertEqual(caught.exception.index, 0)
        with self.assertRaises(BadLot) as caught:
            why_unsure(EXAMPLE, ["c", "b", "c", []])
        self.assertEqual(caught.exception.index, 2)

    def test_not_held(self):
        for debate in small_debates():
            for lot in subsets(debate.statements()):
                fault = fault_of(debate, "held", lot)
                if fault is not None:
                    with self.assertRaises(NotHeld) as caught:
                        why_unsure(lot=lot, debate=debate)
                    self.assertEqual(caught.exception.fault, fault)

    def test_twelve_statements(self):
        for debate in drawn_debates(8, 12, 20):
            self.assertIn(sure_lot(debate), sure_lots(debate))
            for name in debate.statements():
                paper = sure_paper(debate, name)
                self.assertIs(paper is None, name not in sure_lot(debate))
