"""Points 35, 37 and 39: debates built for families."""

import itertools
import unittest

from objections.bars import bar_of
from objections.builtdebates import debate_for, exact_debates
from objections.debates import Debate
from objections.errors import BadFamily, BadKind
from objections.families import family_of
from tests.helper import (
    all_debates, any_objects, drawn_debates, families, lots_by_words, not_lists, small_debates, subsets, tops_by_words,
)
from tests.test_families import F, KINDS, names_by_words, pairs_by_words


def lots_of_kind(debate, kind):
    return tops_by_words(debate) if kind == "tops" else lots_by_words(debate, kind)


class TestBuilt(unittest.TestCase):
    def test_example(self):
        family = [[], ["a", "b"]]
        debate = debate_for(family, "held")
        self.assertEqual(lots_by_words(debate, "held"), family)
        self.assertEqual(len(debate), 4)
        further = [name for name in debate.statements() if name not in ("a", "b")]
        for name in further:
            self.assertIn((name, name), debate.objections())
        self.assertEqual(exact_debates(family, "held"), [])
        near = F[:2] + [[], ["a"], ["b"], ["c"]]
        clashing = Debate(["a", "b", "c"], [("b", "c")])
        self.assertEqual(lots_by_words(clashing, "calm"), sorted(near))
        turned, both = [("c", "b")], [("b", "c"), ("c", "b")]
        self.assertEqual(exact_debates(near, "calm"), [
            clashing, Debate(["a", "b", "c"], turned), Debate(["a", "b", "c"], both),
        ])

    def test_just_one_built_or_barred(self):
        for family in families(["a", "b"]) + families(["a", "b", "c"]):
            for kind in KINDS:
                debate = debate_for([tuple(lot[::-1]) for lot in family][::-1], kind)
                self.assertIs(debate is None, bar_of(family, kind) is not None)
                if debate is not None:
                    self.check(family, kind, debate)
                    self.assertEqual(debate_for(family, kind), debate)

    def check(self, family, kind, debate):
        """That a debate has the family, and none but odd statements besides its names."""
        names = names_by_words(family)
        self.assertEqual(family_of(debate, kind), sorted(family))
        if len(debate) < 8:
            self.assertEqual(lots_of_kind(debate, kind), sorted(family))
        further = [name for name in debate.statements() if name not in names]
        self.assertEqual(len(further) + len(names), len(debate))
        if kind in ("calm", "tops"):
            self.assertEqual(further, [])
        self.assertTrue(all((name, name) in debate.objections() for name in further))

    def test_the_families_that_debates_have(self):
        for debate in small_debates():
            for kind in KINDS:
                family = lots_of_kind(debate, kind)
                if len(names_by_words(family)) < 5:
                    self.assertIsNone(bar_of(family, kind))
                    self.check(family, kind, debate_for(family, kind))

    def test_six_names(self):
        for debate in drawn_debates(25, 6, 21):
            for kind in ("calm", "tops", "settled"):
                family = lots_of_kind(debate, kind)
                self.assertEqual(family_of(debate_for(family, kind), kind), family)
            held = lots_of_kind(debate, "held")
            self.assertEqual(family_of(debate_for(held, "held"), "held"), held)

    def test_settled_without_a_lot_that_pairs_up(self):
        ring = [["a", "b", "x"], ["b", "c", "y"], ["a", "c", "z"]]
        for family in (ring, ring + [["a", "b", "c"]]):
            debate = debate_for(family, "settled")
            self.assertEqual(lots_by_words(debate, "settled"), sorted(family))
            self.check(family, "settled", debate)
            self.assertIsNone(debate_for(family + [["x", "y"]], "settled"))

    def test_fresh_names(self):
        family = [[], ["x0", "x1"], ["x2"]]
        debate = debate_for(kind="held", family=family)
        self.check(family, "held", debate)

    def test_no_lots_and_none_alone(self):
        self.assertEqual(lots_by_words(debate_for([], "settled"), "settled"), [])
        for kind in KINDS:
            self.assertEqual(lots_of_kind(debate_for([[]], kind), kind), [[]])

    def test_errors_in_their_order(self):
        for ask in (debate_for, exact_debates):
            for thing in not_lists():
                with self.assertRaises(BadFamily) as caught:
                    ask(thing, None)
                self.assertEqual(caught.exception.index, 0)
            with self.assertRaises(BadFamily) as caught:
                ask([[], ["a"], ("a",), 1], "calm")
            self.assertEqual(caught.exception.index, 2)
            for thing in any_objects() + ["whole"]:
                with self.assertRaises(BadKind) as caught:
                    ask([["a"]], thing)
                self.assertIs(caught.exception.thing, thing)


class TestExact(unittest.TestCase):
    def test_over_families(self):
        known = {}
        for names in subsets(["a", "b", "c"]):
            for debate in all_debates(names):
                for kind in KINDS:
                    known.setdefault((tuple(names), kind, repr(lots_of_kind(debate, kind))), []).append(debate)
        for family in families(["a", "b"]) + families(["a", "b", "c"]):
            names = names_by_words(family)
            for kind in KINDS:
                right = known.get((tuple(names), kind, repr(sorted(family))), [])
                right = sorted(right, key=lambda debate: (len(debate.objections()), debate.objections()))
                self.assertEqual(exact_debates([lot[::-1] for lot in family][::-1], kind), right)

    def test_facts(self):
        for kind in KINDS:
            self.assertEqual(exact_debates([], kind), [])
            self.assertEqual(exact_debates(kind=kind, family=[[]]), [Debate([], [])])
        for family in families(["a", "b", "c"])[::2]:
            apart = [
                pair for pair in itertools.combinations(names_by_words(family), 2) if pair not in pairs_by_words(family)
            ]
            for kind in ("calm", "tops"):
                self.assertIn(len(exact_debates(family, kind)), (0, 3 ** len(apart)))

    def test_settled_and_greatest_may_lack(self):
        lacking = {kind: 0 for kind in KINDS}
        for family in families(["a", "b", "c"]):
            for kind in KINDS:
                built = debate_for(family, kind) is not None
                lacking[kind] += built and not exact_debates(family, kind)
        self.assertEqual((lacking["calm"], lacking["tops"]), (0, 0))
        self.assertTrue(lacking["held"] and lacking["settled"])
