"""Points 34, 36 and 39: what bars a family."""

import itertools
import unittest

from objections.bars import bar_of, is_bar, kinds_for
from objections.errors import BadFamily, BadKind
from objections.families import kept_down
from tests.helper import any_objects, families, not_lists, subsets
from tests.test_families import F, KINDS, many_families, names_by_words, pairing, pairs_by_words


def bars_by_words(family, kind):
    """All bars that are so, straight from the words, in their order."""
    names = names_by_words(family)
    pairs = pairs_by_words(family)
    lots = sorted(family)
    bars = []
    if kind in ("calm", "tops", "greatest") and not lots or kind == "held" and [] not in lots:
        bars.append(("none",))
    row = []
    for one in subsets(names):
        for other in lots:
            if set(one) < set(other):
                if kind in ("tops", "greatest", "settled") and one in lots or kind == "calm" and one not in lots:
                    row.append(("within", one, other))
    bars += sorted(row)
    row = []
    for lot in pairing(family):
        if kind == "calm" and lot not in lots:
            row.append(("paired", lot))
        if kind == "tops" and not any(set(lot) <= set(other) for other in lots):
            row.append(("paired", lot))
    bars += sorted(row)
    if kind == "settled":
        bars += sorted(
            ("taken", lot, name) for lot in lots for name in names
            if name not in lot and all(tuple(sorted((name, member))) in pairs for member in lot)
        )
    if kind in ("held", "greatest"):
        bars += sorted(
            ("union", one, other) for one, other in itertools.combinations(lots, 2)
            if sorted(set(one + other)) not in lots and sorted(set(one + other)) in pairing(family)
        )
    return bars


class TestBars(unittest.TestCase):
    def test_example(self):
        self.assertEqual(bar_of(F, "tops"), ("paired", ["a", "b", "c"]))
        self.assertEqual(bar_of(F, "settled"), ("taken", ["a", "b"], "c"))
        self.assertEqual(bar_of(F, "greatest"), ("union", ["a", "b"], ["a", "c"]))
        self.assertEqual(kinds_for(F[:2]), ["greatest", "settled", "tops"])
        self.assertEqual(kinds_for(F[:2] + [[], ["a"], ["b"], ["c"]]), ["calm", "held"])

    def test_each_kind_of_bar(self):
        for kind in ("calm", "greatest", "tops", "held"):
            self.assertEqual(bar_of([], kind), ("none",))
        self.assertIsNone(bar_of([], "settled"))
        self.assertEqual(bar_of([["a"]], "held"), ("none",))
        for kind in KINDS:
            self.assertIsNone(bar_of([[]], kind))
        self.assertEqual(bar_of([["b", "a"], ["b"]], "settled"), ("within", ["b"], ["a", "b"]))
        self.assertEqual(bar_of([["b", "a"], ["b"], []], "calm"), ("within", ["a"], ["a", "b"]))
        self.assertEqual(bar_of(kind="calm", family=kept_down(F)), ("paired", ["a", "b", "c"]))

    def test_over_families(self):
        for family in many_families():
            for kind in KINDS:
                bars = bars_by_words(family, kind)
                told = bar_of([tuple(lot[::-1]) for lot in family][::-1], kind)
                self.assertEqual(told, bars[0] if bars else None)
                for bar in bars:
                    turned = [part[::-1] if isinstance(part, list) else part for part in bar]
                    self.assertIs(is_bar(family, kind, tuple(turned)), True)
                    self.assertIs(is_bar(family, kind, turned), True)

    def test_is_bar_just_of_these(self):
        lots = subsets(["a", "b", "c"])
        things = [("none",)] + [("paired", lot) for lot in lots]
        things += [("taken", lot, name) for lot in lots for name in "abcd"]
        things += [(word, one, other) for word in ("within", "union") for one in lots for other in lots]
        for family in families(["a", "b", "c"])[::13]:
            for kind in KINDS:
                bars = bars_by_words(family, kind)
                for thing in things:
                    self.assertIs(is_bar(family, kind, thing), thing in bars)

    def test_any_object(self):
        odd = any_objects() + [
            ("union", ["a", "b"]), ("union", ["a", "b"], ["a", "c"], []), ("union", ["a", "c"], ["a", "b"]), ("union",),
            ("union", ["a", "b", "b"], ["a", "c"]), ("union", "ab", "ac"), ("union", ["a", "b"], ["a", None]),
            (["union"], ["a", "b"], ["a", "c"]), ("unions", ["a", "b"], ["a", "c"]), ("paired", ["a", "b", "c"]),
            {"union": 1}, "union", ("taken", ["a", "b"], "c"), ("taken", ["a", "b"], ["c"]), ("none", []),
            (None, ["a", "b"], ["a", "c"]),
        ]
        for thing in odd:
            self.assertIs(is_bar(F, "greatest", thing), False, thing)
        self.assertIs(is_bar(thing=["union", ("b", "a"), ("c", "a")], kind="greatest", family=F), True)
        self.assertIs(is_bar([], "tops", ("none",)), True)
        self.assertIs(is_bar([], "tops", ("paired", [])), True)

    def test_told_lists_are_new(self):
        family = [["b", "a"], ["c", "a"], ["c", "b"]]
        bar_of(family, "greatest")[1].clear()
        self.assertEqual(family, [["b", "a"], ["c", "a"], ["c", "b"]])
        self.assertEqual(bar_of(family, "greatest"), ("union", ["a", "b"], ["a", "c"]))

    def test_errors_in_their_order(self):
        asks = [lambda family, kind: bar_of(family, kind), lambda family, kind: is_bar(family, kind, None)]
        for ask in asks:
            for thing in not_lists():
                with self.assertRaises(BadFamily) as caught:
                    ask(thing, None)
                self.assertEqual(caught.exception.index, 0)
            with self.assertRaises(BadFamily) as caught:
                ask([["a"], ["b"], ["a"], 5], "whole")
            self.assertEqual(caught.exception.index, 2)
            for thing in any_objects() + ["whole", "least"]:
                with self.assertRaises(BadKind) as caught:
                    ask([["a"]], thing)
                self.assertIs(caught.exception.thing, thing)
        with self.assertRaises(BadFamily) as caught:
            kinds_for([["a"], None])
        self.assertEqual(caught.exception.index, 1)


class TestAllKinds(unittest.TestCase):
    def test_kinds_for(self):
        for family in families(["a", "b", "c"]):
            self.assertEqual(kinds_for(family[::-1]), [kind for kind in KINDS if not bars_by_words(family, kind)])

    def test_facts(self):
        for family in families(["a", "b", "c"]):
            kinds = kinds_for(family)
            apart = not any(set(one) < set(other) for one in family for other in family)
            with_none = family if [] in family else family + [[]]
            self.assertIs("greatest" in kinds, bool(family) and apart and "held" in kinds_for(with_none))
            if "settled" in kinds and family:
                self.assertIn("greatest", kinds)
            self.assertIs("tops" in kinds, apart and "calm" in kinds_for(kept_down(family)))
            if "tops" in kinds:
                self.assertIn("settled", kinds)
