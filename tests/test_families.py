"""Points 32, 33, 38 and 39: families."""

import itertools
import unittest

from objections.bars import kinds_for
from objections.builtdebates import debate_for
from objections.debates import Debate
from objections.errors import BadFamily, BadKind, NotThere, SharedName
from objections.families import clashes, crossed, family_of, kept_down, nearest_calm, pairs_in
from objections.lots import lots_of
from tests.helper import any_objects, calm, families, lots_by_words, not_lists, small_debates, subsets, tops_by_words

F = [["a", "b"], ["a", "c"], ["b", "c"]]
KINDS = ["calm", "held", "greatest", "settled", "tops"]


def many_families():
    """All families of two names, a share of those of three, some of four to six."""
    found = families(["a", "b"]) + families(["a", "b", "c"])[::3]
    lots = subsets(list("abcdef"))
    for step in range(2, 40):
        found.append([lot for at, lot in enumerate(lots) if at * step % 11 == 3 and len(lot) < 5])
    return found


def names_by_words(family):
    return sorted({name for lot in family for name in lot})


def pairs_by_words(family):
    pairs = itertools.combinations(names_by_words(family), 2)
    return [pair for pair in pairs if any(set(pair) <= set(lot) for lot in family)]


def pairing(family):
    """All lots of a family's names that pair up."""
    pairs = pairs_by_words(family)
    return [
        lot for lot in subsets(names_by_words(family))
        if all(pair in pairs for pair in itertools.combinations(lot, 2))
    ]


class TestFamilies(unittest.TestCase):
    def test_pairs_in(self):
        self.assertEqual(pairs_in(F), [("a", "b"), ("a", "c"), ("b", "c")])
        self.assertEqual(pairs_in(family=(("c", "a"), ["b"])), [("a", "c")])
        for family in many_families():
            self.assertEqual(pairs_in([lot[::-1] for lot in family][::-1]), pairs_by_words(family))

    def test_kept_down(self):
        self.assertEqual(kept_down([]), [])
        self.assertEqual(kept_down([[]]), [[]])
        self.assertEqual(kept_down(family=(("b", "a"),)), [[], ["a"], ["a", "b"], ["b"]])
        for family in many_families():
            right = [lot for lot in subsets(names_by_words(family)) if any(set(lot) <= set(other) for other in family)]
            self.assertEqual(kept_down([tuple(lot[::-1]) for lot in family]), right)

    def test_family_of(self):
        for debate in small_debates():
            for kind in KINDS:
                right = tops_by_words(debate) if kind == "tops" else lots_by_words(debate, kind)
                self.assertEqual(family_of(debate, kind), right)
        self.assertEqual(family_of(kind="tops", debate=Debate([], [])), [[]])
        for thing in any_objects() + ["whole", "least", "Tops"]:
            with self.assertRaises(BadKind) as caught:
                family_of(Debate([], []), thing)
            self.assertIs(caught.exception.thing, thing)

    def test_nothing_is_changed_and_all_is_new(self):
        family = [["c", "a"], ["b", "a"]]
        for ask in (pairs_in, kept_down, nearest_calm, lambda row: crossed(row, [["d"]]),
                    lambda row: clashes(row, Debate(["a", "b", "c"], [("a", "b"), ("a", "c")]))):
            told = ask(family)
            first = repr(told)
            told[0] += ("x",) if isinstance(told[0], tuple) else ["x"]
            told.clear()
            self.assertEqual(repr(ask(family)), first)
        self.assertEqual(family, [["c", "a"], ["b", "a"]])

    def test_bad_family(self):
        asks = [
            pairs_in, kept_down, nearest_calm, lambda row: clashes(row, Debate([], [])), lambda row: crossed(row, None),
            lambda row: crossed([["x"]], row),
        ]
        for ask in asks:
            for thing in not_lists():
                with self.assertRaises(BadFamily) as caught:
                    ask(thing)
                self.assertEqual(caught.exception.index, 0)
            odd = [thing for thing in any_objects() if thing not in ([], (), ("none",))]
            odd += [["c", "c"], ["c", None], ["C"], [["c"]], "c", {"c": 1}, ["b", "a"], ("a", "b")]
            for thing in odd:
                with self.assertRaises(BadFamily) as caught:
                    ask([["a", "b"], ["a"], thing, thing])
                self.assertEqual(caught.exception.index, 2, thing)
            with self.assertRaises(BadFamily) as caught:
                ask([[], ["a"], (), ["a"]])
            self.assertEqual(caught.exception.index, 2)


class TestHowFar(unittest.TestCase):
    def test_nearest_calm(self):
        self.assertEqual(nearest_calm(F), subsets(["a", "b", "c"]))
        self.assertEqual(nearest_calm([]), [[]])
        self.assertEqual(nearest_calm(family=(("b", "a"), ["c"])), [[], ["a"], ["a", "b"], ["b"], ["c"]])
        for family in many_families():
            told = nearest_calm(family)
            self.assertEqual(told, pairing(family))
            self.assertTrue(all(lot in told for lot in family))
            self.assertEqual(lots_of(debate_for(told, "calm"), "calm"), told)

    def test_nearest_is_the_one_with_fewest_lots(self):
        names = ["a", "b", "c"]
        pairs = list(itertools.product(names, repeat=2))
        calms = {repr(row): row for row in (lots_by_words(Debate(names, held), "calm") for held in subsets(pairs))}
        for family in families(names)[::5]:
            if names_by_words(family) == names:
                fits = [row for row in calms.values() if all(lot in row for lot in family)]
                self.assertEqual(nearest_calm(family), min(fits, key=len))

    def test_clashes(self):
        debate = Debate(["a", "b", "c", "d"], [("a", "b"), ("c", "c")])
        self.assertEqual(clashes([["b", "a"], ["d", "c"], ["a", "d"], []], debate), [["a", "b"], ["c", "d"]])
        self.assertEqual(clashes(debate=debate, family=(("b",), ("a",))), [])
        for family in families(["a", "b", "c"])[::7]:
            right = [lot for lot in family if not calm(debate, lot)]
            self.assertEqual(clashes(family[::-1], debate), right)
        with self.assertRaises(NotThere) as caught:
            clashes([["z", "a"], ["y", "x"]], debate)
        self.assertEqual(caught.exception.name, "x")

    def test_crossed(self):
        self.assertEqual(crossed([["b"], []], [["c", "a"]]), [["a", "b", "c"], ["a", "c"]])
        self.assertEqual(crossed(other=[["b"]], one=(("a",), ("c",))), [["a", "b"], ["b", "c"]])
        self.assertEqual(crossed([], [["a"]]), [])
        self.assertEqual(crossed([[]], [[]]), [[]])
        with self.assertRaises(SharedName) as caught:
            crossed([["z", "c"], ["b"]], [["y", "b"], ["c", "z"]])
        self.assertEqual(caught.exception.name, "b")
        with self.assertRaises(BadFamily) as caught:
            crossed([["a"], None], [None])
        self.assertEqual(caught.exception.index, 1)
        with self.assertRaises(BadFamily) as caught:
            crossed([["a"]], [["a"], ["b"], None])
        self.assertEqual(caught.exception.index, 2)

    def test_crossed_kinds(self):
        for one in families(["a", "b"]):
            for other in families(["x", "y"]):
                both = kinds_for(crossed(one, other))
                kinds = [kind for kind in kinds_for(one) if kind in kinds_for(other)]
                if one and other:
                    self.assertEqual(both, kinds)
                else:
                    self.assertTrue(all(kind in both for kind in kinds))
