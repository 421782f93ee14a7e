"""Points 89, 90 and 96: what is overheard, and the prices of told lots."""

import itertools

from objections.debates import Debate
from objections.errors import BadLot, BadObjections, BadWay, BadWeights
from objections.lots import is_lot
from objections.prices import overheard_for, overhearing, price_of
from tests.helper import Case, any_objects, lots_by_words, not_words, subsets
from tests.weighing import (
    RING, RING_WEIGHTS, eight_statements, helping, less, lists_of, odd_weights, weighed_debates, weight,
)

PRICED = ["calm", "held", "settled"]
SELF = Debate(["a", "b"], [("a", "a"), ("b", "a")])


class TestOverhearing(Case):
    def test_plain_ones(self):
        for debate, _ in weighed_debates():
            for gone in lists_of(debate)[::3]:
                self.assertEqual(overhearing(debate, gone[::-1]), less(debate, gone))
        self.assertEqual(overhearing(objections=[["c", "a"], ("a", "b")], debate=RING).objections(), [("b", "c")])
        self.assertEqual(overhearing(Debate([], []), ()), Debate([], []))
        self.assertEqual(overhearing(RING, []), RING)

    def test_bad_objections(self):
        self.refuses_no_lists(BadObjections, overhearing, RING)
        for thing in any_objects() + [("b", "a"), ("a", "b", "c"), ["a"], "ab", ("a", "d"), ("a", "b"), ("a", ["b"])]:
            self.refuses(BadObjections, {"index": 1}, overhearing, RING, [("a", "b"), thing, thing])

    def test_nothing_is_changed(self):
        gone = [["a", "b"]]
        overhearing(RING, gone)
        self.assertEqual((gone, len(RING.objections())), ([["a", "b"]], 3))


class TestPrices(Case):
    def test_example(self):
        self.assertEqual(price_of(RING, RING_WEIGHTS, "held", ["a"]), 4)
        self.assertEqual(overheard_for(RING, RING_WEIGHTS, "held", ["a"]), [("c", "a")])
        self.assertEqual(price_of(RING, RING_WEIGHTS, "held", ["a", "b"]), 2)
        self.assertIsNone(price_of(RING, RING_WEIGHTS, "settled", ["a"]))
        self.assertIsNone(overheard_for(RING, RING_WEIGHTS, "settled", ["a"]))
        self.assertEqual(price_of(lot=("b", "a"), way="settled", weights=RING_WEIGHTS, debate=RING), 2)
        self.assertEqual(overheard_for(lot=("b", "a"), way="settled", weights=RING_WEIGHTS, debate=RING), [("a", "b")])

    def test_by_words(self):
        """There is just one such list, a part of all others that do, and its weight is the least."""
        for debate, weights in weighed_debates():
            for way, lot in itertools.product(PRICED, subsets(debate.statements())):
                right = helping(debate, way, lot)
                told = overheard_for(debate, weights, way, lot[::-1])
                price = price_of(debate, weights, way, lot)
                if not right:
                    self.assertEqual((told, price), (None, None))
                    continue
                least = min(weight(weights, gone) for gone in right)
                self.assertEqual([told], [gone for gone in right if weight(weights, gone) == least])
                self.assertTrue(all(set(told) <= set(gone) for gone in right))
                self.assertEqual(price, least)

    def test_edges(self):
        self.assertEqual(overheard_for(SELF, {("a", "a"): 3, ("b", "a"): 4}, "held", ["a"]), [("a", "a"), ("b", "a")])
        self.assertEqual(overheard_for(SELF, {("a", "a"): 3, ("b", "a"): 4}, "calm", ["a"]), [("a", "a")])
        self.assertEqual(price_of(SELF, {("a", "a"): 3, ("b", "a"): 4}, "settled", ["b"]), 0)
        self.assertIsNone(price_of(SELF, {("a", "a"): 3, ("b", "a"): 4}, "settled", ["a"]))
        for way in PRICED:
            self.assertEqual(price_of(Debate([], []), {}, way, []), 0)
            self.assertEqual(overheard_for(Debate(["a"], []), {}, way, ["a"]), [])

    def test_at_the_limit(self):
        debate, weights = eight_statements()
        for way in PRICED:
            for lot in ([], ["a"], ["b", "d", "g"], list("abcdefgh")):
                told = overheard_for(debate, weights, way, lot)
                if told is not None:
                    self.assertTrue(is_lot(overhearing(debate, told), way, lot))
                    self.assertEqual(price_of(debate, weights, way, lot), weight(weights, told))
        self.assertEqual(price_of(debate, weights, "held", list("abcdefgh")), sum(weights.values()))

    def test_priceless_lots_are_of_the_way(self):
        for debate, weights in weighed_debates():
            for way in PRICED:
                free = [lot for lot in subsets(debate.statements()) if price_of(debate, weights, way, lot) == 0]
                self.assertEqual(free, lots_by_words(debate, way))

    def test_errors_in_their_order(self):
        for call in (price_of, overheard_for):
            for thing in any_objects() + odd_weights(RING, RING_WEIGHTS):
                self.refuses(BadWeights, {"thing": thing}, call, RING, thing, None, None)
            for thing in not_words(PRICED) + ["whole", "least", "greatest"]:
                self.refuses(BadWay, {"thing": thing}, call, RING, RING_WEIGHTS, thing, None)
            self.refuses_no_lists(BadLot, call, RING, RING_WEIGHTS, "held")
            for thing in any_objects() + ["b", "d", ["a"]]:
                if thing != "a":
                    self.refuses(BadLot, {"index": 1}, call, RING, RING_WEIGHTS, "calm", ["b", thing, thing])
            for thing in any_objects():
                if thing != {}:
                    self.refuses(BadWeights, {"thing": thing}, call, Debate(["a"], []), thing, "calm", [])

    def test_new_each_time_and_nothing_changed(self):
        weights = dict(RING_WEIGHTS)
        overheard_for(RING, weights, "held", ["a"]).clear()
        self.assertEqual(overheard_for(RING, weights, "held", ["a"]), [("c", "a")])
        self.assertEqual(list(weights.items()), list(RING_WEIGHTS.items()))
