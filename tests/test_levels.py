"""Points 85 and 88: levels of claims, and walks along rules."""

import itertools

from objections.levels import is_walk, levels, odd_walk, unless_walk
from objections.readings import readings
from objections.rules import Rules
from tests.helper import Case, any_objects, ascending
from tests.rulewords import EIGHT, K, ODD, drawn_rules, many_rules, ring_of_unless, small_rules, thirty_rules


def levels_by_words(known):
    """The least numbers, by going through all of them from 0 to the number of claims."""
    names = known.claims()
    fit = []
    for row in itertools.product(range(len(names) + 1), repeat=len(names)):
        told = dict(zip(names, row))
        if all(
            all(told[head] >= told[one] for one in body) and all(told[head] > told[one] for one in unless)
            for head, body, unless in known.triples()
        ):
            fit.append(told)
    if not fit:
        return None
    least = {name: min(told[name] for told in fit) for name in names}
    assert least in fit
    return least


def links(known):
    found = set()
    for head, body, unless in known.triples():
        found |= {(head, "body", one) for one in body} | {(head, "unless", one) for one in unless}
    return found


def is_walk_by_words(known, walk):
    return len(walk) > 0 and all(
        step in links(known) and walk[(at + 1) % len(walk)][0] == step[2] for at, step in enumerate(walk))


def many_unless(walk):
    return sum(word == "unless" for _, word, _ in walk)


def least_walk(known, fits, most):
    """The number of triples of the shortest walks that fit, by going through all of at most so many; else None."""
    rows = [(step,) for step in links(known)]
    for _ in range(most):
        for row in rows:
            if row[-1][2] == row[0][0] and fits(many_unless(row)):
                return len(row)
        # Two beginnings with the same ends and as many unless do the same from here on.
        seen = {(row[0][0], row[-1][2], many_unless(row)): row for row in rows}
        rows = [row + (step,) for row in seen.values() for step in links(known) if step[0] == row[-1][2]]
    return None


class TestLevels(Case):
    def test_plain_ones(self):
        known = Rules(["a", "b", "c", "d"], [("b", ["a"], []), ("c", ["b"], ["a"]), ("d", [], ["c"]), ("a", ["b"], [])])
        self.assertEqual(levels(known), {"a": 0, "b": 0, "c": 1, "d": 2})
        self.assertIsNone(unless_walk(known))
        self.assertEqual(levels(known=Rules(["a"], [])), {"a": 0})
        self.assertEqual(levels(Rules([], [])), {})
        self.assertIsNone(levels(K))
        self.assertIsNone(levels(ODD))
        self.assertEqual(levels(Rules(["a"], [("a", ["a"], []), ("a", [], [])])), {"a": 0})

    def test_by_words(self):
        for known in small_rules() + drawn_rules(60, 3, 4, 330) + drawn_rules(30, 4, 4, 331):
            told = levels(known)
            self.assertEqual(told, levels_by_words(known), known.triples())
            self.assertTrue(told is None or ascending(told))

    def test_as_many_as_can_be(self):
        names = EIGHT[::-1]
        known = Rules(EIGHT, [(names[at + 1], [], [names[at]]) for at in range(7)])
        self.assertEqual(levels(known), {name: 7 - at for at, name in enumerate(EIGHT)})

    def test_one_reading_by_levels(self):
        for known in small_rules() + many_rules():
            if levels(known) is not None:
                self.assertEqual(len(readings(known, "whole")), 1)
                self.assertEqual(len(readings(known, "settled")), 1)

    def test_new_each_time(self):
        known = Rules(["a"], [])
        levels(known).clear()
        self.assertEqual(levels(known), {"a": 0})


class TestWalks(Case):
    def test_example(self):
        self.assertIsNone(odd_walk(K))
        self.assertIn(unless_walk(K), ([("a", "unless", "b"), ("b", "unless", "a")],
                                       [("b", "unless", "a"), ("a", "unless", "b")]))
        self.assertEqual(odd_walk(known=ODD), [("a", "unless", "a")])
        self.assertEqual(unless_walk(known=ODD), [("a", "unless", "a")])

    def test_rings(self):
        for many in range(1, 7):
            known = ring_of_unless(many)
            self.assertEqual(len(unless_walk(known)), many)
            self.assertEqual(odd_walk(known) is None, many in (2, 4, 6))

    def test_claims_that_stand_in_body_and_unless(self):
        both = Rules(["a", "b"], [("a", ["b"], ["b"]), ("b", ["a"], [])])
        self.assertEqual(len(odd_walk(both)), 2)
        self.assertEqual(many_unless(odd_walk(both)), 1)
        walk = [("a", "body", "b"), ("b", "body", "a"), ("a", "unless", "b"), ("b", "body", "a")]
        self.assertIs(is_walk(both, walk), True)
        self.assertIs(is_walk(both, walk[:3]), False)

    def test_odd_walks_among_even_rings(self):
        known = Rules(["a", "b", "c", "d", "e"], [
            ("a", [], ["b"]), ("b", [], ["a"]), ("a", ["c"], []), ("c", [], ["d"]), ("d", ["e"], []), ("e", [], ["a"])])
        self.assertIsNone(odd_walk(known))
        self.assertEqual(len(unless_walk(known)), 2)

    def test_by_words(self):
        for known in small_rules()[::2] + drawn_rules(60, 3, 4, 332) + drawn_rules(25, 4, 5, 333):
            some, odd = unless_walk(known), odd_walk(known)
            for walk in (some, odd):
                if walk is not None:
                    self.assertIs(type(walk), list)
                    self.assertEqual({type(step) for step in walk}, {tuple})
                    self.assertTrue(is_walk_by_words(known, walk))
                    self.assertIs(is_walk(known, walk), True)
            self.assertEqual(some and len(some), least_walk(known, lambda many: many > 0, 9), known.triples())
            self.assertEqual(odd and len(odd), least_walk(known, lambda many: many & 1 == 1, 9), known.triples())
            self.assertTrue(some is None or many_unless(some) > 0)
            self.assertTrue(odd is None or many_unless(odd) & 1)

    def test_just_one(self):
        for known in small_rules() + many_rules():
            self.assertNotEqual(levels(known) is None, unless_walk(known) is None)

    def test_settled_without_odd_walks(self):
        for known in small_rules() + many_rules():
            if odd_walk(known) is None:
                self.assertTrue(readings(known, "settled"))

    def test_is_walk(self):
        for known in small_rules()[::6] + drawn_rules(10, 3, 4, 334):
            steps = sorted(links(known)) + [("a", "body", "a"), ("b", "unless", "a")]
            for many in range(4 if len(steps) < 9 else 3):
                for row in itertools.product(steps, repeat=many):
                    right = is_walk_by_words(known, row)
                    self.assertIs(is_walk(known, [list(step) for step in row]), right)
        self.assertIs(is_walk(thing=[("a", "unless", "b"), ["b", "unless", "a"]], known=K), True)

    def test_odd_objects(self):
        right = ("a", "unless", "a")
        for thing in any_objects() + [right, "aua", {right: 1}]:
            self.assertIs(is_walk(ODD, thing), False)
            self.assertIs(is_walk(ODD, [right, thing]), thing is right)
            self.assertIs(is_walk(ODD, [("a", "unless", thing)]), thing == "a")
            self.assertIs(is_walk(ODD, [(thing, "unless", "a")]), thing == "a")
            self.assertIs(is_walk(ODD, [("a", thing, "a")]), False)
        self.assertIs(is_walk(ODD, [right + ("a",)]), False)
        self.assertIs(is_walk(ODD, [("a", "body", "a")]), False)
        self.assertIs(is_walk(K, [("a", "unless", "b")]), False)

    def test_alike_and_new_each_time(self):
        for known in many_rules()[::9]:
            other = Rules(tuple(known.claims()), [list(triple) for triple in known.triples()])
            self.assertEqual(unless_walk(known), unless_walk(other))
            self.assertEqual(odd_walk(known), odd_walk(other))
        odd_walk(ODD).clear()
        unless_walk(ODD).clear()
        self.assertEqual((len(odd_walk(ODD)), len(unless_walk(ODD))), (1, 1))

    def test_at_the_limit(self):
        for known in [thirty_rules(EIGHT), ring_of_unless(8)] + drawn_rules(5, 8, 30, 335):
            for walk in (unless_walk(known), odd_walk(known)):
                self.assertTrue(walk is None or is_walk(known, walk))
        self.assertEqual(len(unless_walk(ring_of_unless(8))), 8)
