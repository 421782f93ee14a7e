"""Points 86, 87 and 88: pairs of rules, and rules that part two of them."""

import itertools

from objections.errors import UnlikeClaims
from objections.readings import readings
from objections.rulepairs import is_parting, pairs_of, parting_rules
from objections.rules import Rules, with_rules
from tests.helper import Case, any_objects, subsets
from tests.rulewords import (
    EIGHT, K, K_TRIPLES, ODD, all_triples, drawn_rules, many_rules, readings_by_words, small_rules, thirty_rules,
)

L = Rules(["a", "b", "c"], K_TRIPLES[:2] + [("c", [], [])])


def pairs_by_words(known):
    found = []
    for there in subsets(known.claims()):
        for here in subsets(there):
            right = True
            for head, body, unless in known.triples():
                if not set(unless) & set(there):
                    right = right and (head in there or not set(body) <= set(there))
                    right = right and (head in here or not set(body) <= set(here))
            if right:
                found.append((tuple(here), tuple(there)))
    return sorted(found)


def settled_with(known, rules):
    """The settled readings with further rules, straight from the words."""
    return readings_by_words(with_rules(known, rules), "settled")


def pairs_of_rules():
    """Pairs of rules with the same claims, alike in what they tell or not."""
    small = [known for known in small_rules() if len(known.claims()) == 2]
    found = list(itertools.product(small[1:30:2], small[2:400:9]))
    single = [known for known in small_rules() if len(known.claims()) == 1]
    found += list(itertools.product(single, repeat=2))
    three = drawn_rules(40, 3, 4, 340)
    found += list(zip(three, three[1:])) + [(Rules([], []), Rules([], []))]
    # Rules that do the same in other words.
    found += [(known, Rules(known.claims(), known.triples()[::-1] + known.triples()[:1])) for known in three[:15]]
    found += [(known, Rules(known.claims(), known.triples() + [("a", ["a", "b"], ["c"])])) for known in three[:9]]
    found += [(known, Rules(known.claims(), known.triples() + [("b", ["a"], ["a"])])) for known in three[:9]]
    return found


class TestPairs(Case):
    def test_by_words(self):
        for known in small_rules() + many_rules():
            told = pairs_of(known)
            self.assertEqual(told, pairs_by_words(known))
            self.assertIs(type(told), list)

    def test_plain_ones(self):
        self.assertEqual(pairs_of(known=ODD), [((), ("a",)), (("a",), ("a",))])
        self.assertEqual(pairs_of(Rules(["a"], [("a", [], [])])), [(("a",), ("a",))])
        self.assertEqual(pairs_of(Rules([], [])), [((), ())])
        self.assertEqual(pairs_of(Rules(["a"], [])), [((), ()), ((), ("a",)), (("a",), ("a",))])

    def test_settled_ones(self):
        """What is in in settled readings are just those for which it is a pair with itself, and with no other."""
        for known in small_rules() + many_rules():
            pairs = pairs_of(known)
            alone = [there for here, there in pairs if here == there and sum(pair[1] == there for pair in pairs) == 1]
            told = [tuple(claim for claim in row if row[claim] == "in") for row in readings(known, "settled")]
            self.assertEqual(sorted(told), alone)

    def test_new_each_time(self):
        pairs_of(ODD).clear()
        self.assertEqual(len(pairs_of(ODD)), 2)

    def test_at_the_limit(self):
        for size in (6, 8):
            known = thirty_rules(EIGHT[:size])
            told = pairs_of(known)
            self.assertEqual(told, sorted(told))
            if size == 6:
                self.assertEqual(told, pairs_by_words(known))
        self.assertEqual(len(pairs_of(Rules(EIGHT[:6], []))), 729)


class TestParting(Case):
    def test_example(self):
        self.assertEqual(readings(K, "settled"), readings(L, "settled"))
        both = [("a", ["c"], []), ("b", ["c"], [])]
        self.assertIs(is_parting(K, L, both), True)
        self.assertEqual(settled_with(K, both), [])
        self.assertEqual(settled_with(L, both), [{"a": "in", "b": "in", "c": "in"}])
        told = parting_rules(other=L, one=K)
        self.assertTrue(is_parting(thing=told, other=L, one=K))

    def test_just_one(self):
        for one, other in pairs_of_rules():
            told = parting_rules(one, other)
            self.assertEqual(told is None, pairs_of(one) == pairs_of(other), (one.triples(), other.triples()))
            if told is None:
                continue
            self.assertIs(type(told), list)
            for triple in told:
                self.assertEqual([type(part) for part in triple], [str, tuple, tuple])
                self.assertEqual(triple[2], ())
            self.assertIs(is_parting(one, other, told), True)
            self.assertNotEqual(settled_with(one, told), settled_with(other, told))

    def test_whatever_is_put_beside(self):
        """Rules with equal pairs have the same settled readings with all lists of at most two further rules."""
        alike = 0
        for one, other in pairs_of_rules():
            names = one.claims()
            if len(names) < 3 and pairs_of(one) == pairs_of(other):
                alike += 1
                triples = all_triples(names)
                for many in range(2 if alike % 9 else 3):
                    for row in itertools.combinations(triples, many):
                        rows = list(row)
                        self.assertEqual(settled_with(one, rows), settled_with(other, rows))
                        self.assertIs(is_parting(one, other, rows), False)
        self.assertGreater(alike, 30)

    def test_is_parting_by_words(self):
        for one, other in pairs_of_rules()[::7]:
            for row in itertools.islice(itertools.combinations(all_triples(one.claims()), 2), 0, 600, 41):
                right = settled_with(one, list(row)) != settled_with(other, list(row))
                self.assertIs(is_parting(one, other, tuple(list(triple) for triple in row)), right)
            self.assertIs(is_parting(one, other, []), settled_with(one, []) != settled_with(other, []))

    def test_as_many_as_come(self):
        names = EIGHT[:6]
        one, other = thirty_rules(names), Rules(names, thirty_rules(names).triples()[:-1])
        rules = [(head, [], [name]) for head in names for name in names] + thirty_rules(names).triples()
        self.assertIs(is_parting(one, other, rules * 3), False)
        told = parting_rules(one, other)
        self.assertEqual(told is None, pairs_of(one) == pairs_of(other))
        empty = Rules(names, [])
        told = parting_rules(one, empty)
        self.assertIs(is_parting(one, empty, told), True)
        self.assertIs(is_parting(one, empty, told + told + told), True)

    def test_odd_objects(self):
        for thing in any_objects() + [("a", [], []), [("a", [])], [("d", [], [])], [("a", ["a", "a"], [])], {"a": 1}]:
            self.assertIs(is_parting(K, L, thing), False)
            self.assertIs(is_parting(K, L, [("a", ["c"], []), thing, ("b", ["c"], [])]), False)

    def test_unlike_claims(self):
        wide = Rules(["a", "b", "c", "d"], K_TRIPLES)
        for call in (parting_rules, lambda one, other: is_parting(one, other, None)):
            for one, other in ((K, wide), (wide, K), (K, ODD), (Rules([], []), ODD)):
                self.refuses(UnlikeClaims, {}, call, one, other)

    def test_alike_and_new_each_time(self):
        for one, other in pairs_of_rules()[::11]:
            again = Rules(tuple(one.claims()), [list(triple) for triple in one.triples()])
            self.assertEqual(parting_rules(one, other), parting_rules(again, other))
        parting_rules(K, L).clear()
        self.assertTrue(parting_rules(K, L))
        self.assertIsNone(parting_rules(K, K))
