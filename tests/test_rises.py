"""Points 94, 95 and 96: into the least lot and out of it, and one word more."""

import random

from objections.budgets import least_budget
from objections.debates import Debate
from objections.errors import BadName, BadWeights, NoStatement
from objections.otherdebates import joined
from objections.rises import cheapest_fall, cheapest_rise, with_answer
from tests.helper import (
    Case, any_objects, drawn_debates, least_by_words, lots_by_words, met, not_statements, ranks_by_words,
)
from tests.weighing import RING, RING_WEIGHTS, drawn_weights, less, lists_of, odd_weights, weighed_debates, weight


def cheapest_by_words(debate, weights, statement, is_in):
    """The least weight and the first list with it, by going through all lists; who has a rank is in the least lot."""
    fit = [gone for gone in lists_of(debate) if (statement in ranks_by_words(less(debate, gone))) == is_in]
    if not fit:
        return None
    least = min(weight(weights, gone) for gone in fit)
    return (least, [gone for gone in fit if weight(weights, gone) == least][0])


class TestRises(Case):
    def test_example(self):
        self.assertEqual(cheapest_rise(RING, RING_WEIGHTS, "c"), (3, [("b", "c")]))
        self.assertEqual(cheapest_rise(statement="a", weights=RING_WEIGHTS, debate=RING), (2, [("a", "b")]))
        self.assertEqual(cheapest_fall(statement="a", weights=RING_WEIGHTS, debate=RING), (0, []))

    def test_by_words(self):
        for debate, weights in weighed_debates():
            for name in debate.statements():
                self.assertEqual(cheapest_rise(debate, weights, name), cheapest_by_words(debate, weights, name, True))
                told = cheapest_fall(debate, weights, name)
                if met(debate, name):
                    self.assertEqual(told, cheapest_by_words(debate, weights, name, False))
                else:
                    self.assertIsNone(told)
                    self.assertIsNone(cheapest_by_words(debate, weights, name, False))

    def test_facts(self):
        for debate, weights in weighed_debates():
            for name in debate.statements():
                price, gone = cheapest_rise(debate, weights, name)
                self.assertLessEqual(price, sum(weights[one, name] for one in met(debate, name)))
                self.assertGreaterEqual(price, least_budget(debate, weights, name))
                self.assertEqual((type(gone), gone), (list, sorted(gone)))

    def test_edges(self):
        alone = Debate(["a"], [("a", "a")])
        self.assertEqual(cheapest_rise(alone, {("a", "a"): 5}, "a"), (5, [("a", "a")]))
        self.assertEqual(cheapest_fall(alone, {("a", "a"): 5}, "a"), (0, []))
        free = Debate(["a", "b"], [("a", "b")])
        self.assertEqual(cheapest_rise(free, {("a", "b"): 5}, "a"), (0, []))
        self.assertIsNone(cheapest_fall(free, {("a", "b"): 5}, "a"))
        row = Debate(["a", "b", "c"], [("a", "b"), ("b", "c")])
        self.assertEqual(cheapest_fall(row, {("a", "b"): 9, ("b", "c"): 1}, "c"), (9, [("a", "b")]))

    def test_of_equal_weights_the_first_list(self):
        """[("a", "c"), ("b", "c")] weighs as much as [("d", "e")] and is the first one as lists compare."""
        debate = Debate(["a", "b", "c", "d", "e"], [
            ("a", "c"), ("b", "c"), ("d", "a"), ("d", "b"), ("e", "d"), ("d", "e")])
        weights = {("a", "c"): 1, ("b", "c"): 1, ("d", "a"): 9, ("d", "b"): 9, ("e", "d"): 2, ("d", "e"): 9}
        self.assertEqual(cheapest_rise(debate, weights, "c"), (2, [("a", "c"), ("b", "c")]))
        self.assertEqual(cheapest_by_words(debate, weights, "c", True), (2, [("a", "c"), ("b", "c")]))

    def test_at_the_limit(self):
        draw = random.Random(411)
        for turn, debate in enumerate(drawn_debates(6, 8, 412)):
            pairs = draw.sample(debate.objections(), min(10, len(debate.objections())))
            debate = Debate(debate.statements(), pairs)
            weights = drawn_weights(debate, turn)
            for name in debate.statements()[:3]:
                self.assertEqual(cheapest_rise(debate, weights, name), cheapest_by_words(debate, weights, name, True))
                self.assertEqual(cheapest_fall(debate, weights, name), cheapest_by_words(debate, weights, name, False))
        many = Debate(list("abcdefgh"), [(one, "a") for one in "bcdefgh"] + [("h", "b"), ("h", "c"), ("a", "a")])
        self.assertEqual(cheapest_rise(many, {pair: 100 for pair in many.objections()}, "a")[0], 600)

    def test_errors_in_their_order(self):
        for call in (cheapest_rise, cheapest_fall):
            for thing in any_objects() + odd_weights(RING, RING_WEIGHTS):
                self.refuses(BadWeights, {"thing": thing}, call, RING, thing, None)
            for thing in not_statements(RING):
                self.refuses(NoStatement, {"thing": thing}, call, RING, RING_WEIGHTS, thing)

    def test_new_each_time_and_nothing_changed(self):
        weights = dict(RING_WEIGHTS)
        cheapest_rise(RING, weights, "a")[1].clear()
        cheapest_fall(RING, weights, "a")[1].append(None)
        self.assertEqual(cheapest_rise(RING, weights, "a"), (2, [("a", "b")]))
        self.assertEqual(cheapest_fall(RING, weights, "a"), (0, []))
        self.assertEqual(list(weights.items()), list(RING_WEIGHTS.items()))


class TestOneWordMore(Case):
    def test_plain_ones(self):
        told = with_answer(RING, "a", "x")
        self.assertEqual(told.statements(), ["a", "b", "c", "x"])
        self.assertEqual(told.objections(), RING.objections() + [("x", "c")])
        both = Debate(["b", "a"], [("a", "a"), ("b", "a"), ("a", "b")])
        told = with_answer(name="z9", statement="a", debate=both)
        self.assertEqual(told.objections(), both.objections() + [("z9", "b")])
        self.assertEqual(with_answer(Debate(["a"], []), "a", "b"), Debate(["a", "b"], []))

    def test_one_is_enough_or_none_is(self):
        for debate, _ in weighed_debates():
            for name in debate.statements():
                told = with_answer(debate, name, "zz")
                objections = [("zz", one) for one in met(debate, name) if one != name]
                self.assertEqual(told, Debate(debate.statements() + ["zz"], debate.objections() + objections))
                itself = (name, name) in debate.objections()
                self.assertEqual(least_by_words(told)[name] == "in", not itself)
                if itself:
                    for more in drawn_debates(2, 4, 413):
                        lots = lots_by_words(joined(told, more), "held")
                        self.assertFalse(any(name in lot for lot in lots))

    def test_errors_in_their_order(self):
        for thing in not_statements(RING):
            self.refuses(NoStatement, {"thing": thing}, with_answer, RING, thing, None)
        names = ["ab", "zz9", "a"]
        for thing in any_objects() + ["b", "c", "A", "x" * 13, "x ", "9x", ["x"]]:
            if thing not in names:
                self.refuses(BadName, {"thing": thing}, with_answer, RING, "a", thing)
        self.refuses(BadName, {"thing": "a"}, with_answer, RING, "a", "a")
        self.assertEqual(len(with_answer(RING, "a", "x" * 12)), 4)
