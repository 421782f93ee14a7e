"""Points 84 and 88: showings step by step, and readings that leave a claim undecided."""

import itertools

from objections.errors import BadClaim
from objections.readings import is_reading, readings
from objections.rules import Rules
from objections.showings import is_showing, showing_of, undecided_in
from tests.helper import Case, any_objects, ascending, not_words, subsets
from tests.rulewords import EIGHT, K, ODD, drawn_rules, many_rules, ring_of_unless, small_rules, thirty_rules

CHAIN = Rules(["a", "b", "c", "d"], [("b", [], ["a"]), ("c", [], ["b"]), ("d", ["b"], ["c", "a"])])
STEPS = [("out", ["a"]), ("in", "b", 0), ("out", ["c"]), ("in", "d", 2)]


def shown_by_words(known, steps):
    """What steps show in and out, and what the last one shows; None if one of them is none. Straight from the words."""
    ins, outs, last = set(), set(), []
    for step in steps:
        if step[0] == "in":
            head, body, unless = known.triples()[step[2]]
            if head != step[1] or not set(body) <= ins or not set(unless) <= outs:
                return None
            last = [head]
            ins.add(head)
        else:
            lot = set(step[1])
            for head, body, unless in known.triples():
                if head in lot and not set(body) & (outs | lot) and not set(unless) & ins:
                    return None
            last = list(lot)
            outs |= lot
    return ins, outs, last


def all_steps(known):
    """Each step that rules may have."""
    steps = [("in", head, index) for index in range(len(known.triples())) for head in known.claims()]
    return steps + [("out", lot) for lot in subsets(known.claims()) if lot]


class TestShowings(Case):
    def test_plain_ones(self):
        self.assertIs(is_showing(CHAIN, "d", STEPS), True)
        self.assertIs(is_showing(thing=tuple(STEPS), claim="d", known=CHAIN), True)
        self.assertIs(is_showing(CHAIN, "d", [["out", ("a",)], ["in", "b", 0], ("out", ("c",)), ["in", "d", 2]]), True)
        self.assertIs(is_showing(CHAIN, "c", STEPS[:3]), True)
        self.assertIs(is_showing(CHAIN, "c", STEPS), False)
        self.assertIs(is_showing(CHAIN, "d", STEPS[1:]), False)
        self.assertIs(is_showing(CHAIN, "d", STEPS[:2] + STEPS[3:]), False)
        self.assertIs(is_showing(CHAIN, "a", [("out", ["a"]), ("out", ["a"])]), True)
        told = showing_of(claim="d", known=CHAIN)
        self.assertTrue(is_showing(CHAIN, "d", told))
        self.assertIsNone(undecided_in(claim="d", known=CHAIN))

    def test_out_together(self):
        """What rests on one another alone is out together, none of it by itself."""
        known = Rules(["a", "b", "c"], [("a", ["b"], []), ("b", ["a"], []), ("c", ["c"], [])])
        self.assertIs(is_showing(known, "a", [("out", ["a"])]), False)
        self.assertIs(is_showing(known, "a", [("out", ["b", "a"])]), True)
        self.assertIs(is_showing(known, "c", [("out", ["c"])]), True)
        self.assertIs(is_showing(known, "c", [("out", ["a", "b", "c"])]), True)
        self.assertIs(is_showing(known, "c", [("out", ["a", "c"])]), False)

    def test_by_words(self):
        for known in small_rules()[::5] + drawn_rules(12, 3, 3, 320):
            steps = all_steps(known)
            rows = [()] + [(step,) for step in steps]
            rows += itertools.islice(itertools.product(steps, repeat=2), 0, None, 1 if len(steps) < 9 else 7)
            for row in rows:
                told = shown_by_words(known, row)
                for claim in known.claims():
                    right = told is not None and claim in told[2]
                    self.assertIs(is_showing(known, claim, list(row)), right, (known.triples(), row))

    def test_just_one(self):
        for known in small_rules() + many_rules():
            every = readings(known, "whole") if len(known.claims()) < 6 else readings(known, "least")
            for claim in known.claims():
                told = showing_of(known, claim)
                left = undecided_in(known, claim)
                self.assertNotEqual(told is None, left is None)
                if told is None:
                    self.assertEqual(left[claim], "undecided")
                    self.assertIs(is_reading(known, "whole", left), True)
                    self.assertTrue(ascending(left))
                    continue
                ins, outs, last = shown_by_words(known, told)
                self.assertIn(claim, last)
                self.assertIs(is_showing(known, claim, told), True)
                for reading in every:
                    self.assertTrue(all(reading[one] == "in" for one in ins))
                    self.assertTrue(all(reading[one] == "out" for one in outs))

    def test_kinds(self):
        told = showing_of(CHAIN, "d")
        self.assertIs(type(told), list)
        self.assertEqual({type(step) for step in told}, {tuple})
        self.assertEqual({type(step[1]) for step in told if step[0] == "out"}, {list})
        self.assertEqual({type(step[2]) for step in told if step[0] == "in"}, {int})

    def test_steps_stand_in_order(self):
        """No step of a showing is one without those ahead of it that it rests on."""
        for known in many_rules():
            for claim in known.claims():
                told = showing_of(known, claim)
                for many in range(1, len(told or []) + 1):
                    self.assertIsNotNone(shown_by_words(known, told[:many]))

    def test_edges(self):
        facts = Rules(["a", "b"], [("a", [], []), ("a", [], []), ("b", [], ["a"])])
        self.assertTrue(is_showing(facts, "a", [("in", "a", 0)]))
        self.assertTrue(is_showing(facts, "a", [("in", "a", 1)]))
        self.assertTrue(is_showing(facts, "b", [("in", "a", 1), ("out", ["b"])]))
        self.assertFalse(is_showing(facts, "b", [("out", ["b"])]))
        bare = Rules(["a", "b"], [])
        self.assertTrue(is_showing(bare, "a", [("out", ["b", "a"])]))
        self.assertIsNone(showing_of(ODD, "a"))
        self.assertEqual(undecided_in(ODD, "a"), {"a": "undecided"})
        for many in range(1, 7):
            self.assertIsNone(showing_of(ring_of_unless(many), "c0"))
            self.assertEqual(undecided_in(ring_of_unless(many), "c0")["c0"], "undecided")

    def test_odd_objects(self):
        for thing in any_objects():
            self.assertIs(is_showing(CHAIN, "a", thing), False)
            self.assertIs(is_showing(CHAIN, "a", [thing]), False)
            self.assertIs(is_showing(CHAIN, "b", [STEPS[0], ("in", "b", thing)]), thing == 0 and type(thing) is int)
            self.assertIs(is_showing(CHAIN, "b", [STEPS[0], ("in", thing, 0)]), False)
            self.assertIs(is_showing(CHAIN, "b", [STEPS[0], (thing, "b", 0)]), False)
            self.assertIs(is_showing(CHAIN, "a", [("out", thing)]), False)
            self.assertIs(is_showing(CHAIN, "a", [("out", [thing])]), thing == "a")
            self.assertIs(is_showing(CHAIN, "a", [(thing, ["a"])]), False)
            self.assertIs(is_showing(CHAIN, "a", [thing, STEPS[0]]), False)
        odd = [
            ("out", ["a"], 0), ("out",), ("out", ["a", "a"]), ("out", []), ("out", "a"), ("in", "a"), ("out", {"a": 1}),
            ("in", "b", -3), ("in", "b", 3), ("in", "b", True), ("in", "b", False), ("in", ["b"], 0), {"out": ["a"]},
        ]
        for step in odd:
            self.assertIs(is_showing(CHAIN, "a", [step]), False)
            self.assertIs(is_showing(CHAIN, "b", [STEPS[0], step]), False)

    def test_bad_claim(self):
        for thing in not_words(["a", "b", "c"]):
            self.refuses(BadClaim, {"thing": thing}, is_showing, K, thing, None)
            self.refuses(BadClaim, {"thing": thing}, showing_of, K, thing)
            self.refuses(BadClaim, {"thing": thing}, undecided_in, K, thing)

    def test_alike_and_new_each_time(self):
        for known in many_rules()[::9] + [CHAIN]:
            triples = [[head, list(body), list(unless)] for head, body, unless in known.triples()]
            other = Rules(tuple(known.claims()), tuple(triples))
            for claim in known.claims():
                self.assertEqual(showing_of(known, claim), showing_of(other, claim))
                self.assertEqual(undecided_in(known, claim), undecided_in(other, claim))
        told = showing_of(CHAIN, "d")
        for step in told:
            if step[0] == "out":
                step[1].clear()
        told.clear()
        self.assertTrue(is_showing(CHAIN, "d", showing_of(CHAIN, "d")))
        undecided_in(ODD, "a").clear()
        self.assertEqual(undecided_in(ODD, "a"), {"a": "undecided"})

    def test_at_the_limit(self):
        for known in [thirty_rules(EIGHT)] + drawn_rules(4, 8, 30, 321):
            for claim in known.claims():
                told = showing_of(known, claim)
                self.assertNotEqual(told is None, undecided_in(known, claim) is None)
                if told is not None:
                    self.assertTrue(is_showing(known, claim, told))
        rows = [(EIGHT[at + 1], [], [EIGHT[at]]) for at in range(7)]
        long = Rules(EIGHT, rows)
        self.assertTrue(is_showing(long, "c7", showing_of(long, "c7")))
