"""Points 81 and 88: readings by their ways."""

from objections.errors import BadWay
from objections.readings import is_reading, readings
from objections.rules import Rules
from tests.helper import Case, any_objects, ascending, label_rows, not_words
from tests.rulewords import (
    EIGHT, K, ODD, WAYS, drawn_rules, many_rules, readings_by_words, ring_of_unless, small_rules, thirty_rules,
)

IN_A = {"a": "in", "b": "out", "c": "in"}
IN_B = {"a": "out", "b": "in", "c": "in"}
NONE_KNOWN = {"a": "undecided", "b": "undecided", "c": "undecided"}


class TestReadings(Case):
    def test_example(self):
        self.assertEqual(readings(K, "settled"), [IN_A, IN_B])
        self.assertEqual(readings(way="least", known=K), [NONE_KNOWN])
        self.assertEqual(readings(K, "whole"), [IN_A, IN_B, NONE_KNOWN])
        self.assertEqual(readings(K, "greatest"), [IN_A, IN_B])
        other = Rules(["a", "b", "c"], [("a", [], ["b"]), ("b", [], ["a"]), ("c", [], [])])
        self.assertEqual(readings(other, "settled"), [IN_A, IN_B])
        self.assertEqual(readings(other, "least"), [NONE_KNOWN | {"c": "in"}])

    def test_by_words(self):
        for known in small_rules() + many_rules():
            for way in WAYS:
                told = readings(known, way)
                self.assertEqual(told, readings_by_words(known, way), (known.triples(), way))
                self.assertTrue(all(ascending(reading) for reading in told))
                rows = [list(reading.values()) for reading in told]
                self.assertEqual(rows, sorted(rows))

    def test_ways_hold(self):
        """There is one least reading, each reading lies in a greatest one, and settled ones are greatest."""
        for known in many_rules():
            least = readings(known, "least")
            self.assertEqual(len(least), 1)
            greatest = readings(known, "greatest")
            self.assertTrue(greatest)
            for reading in readings(known, "whole"):
                lot = {claim for claim in reading if reading[claim] == "in"}
                self.assertTrue(any(all(other[claim] == "in" for claim in lot) for other in greatest))
                for claim, label in least[0].items():
                    self.assertIn(label, (reading[claim], "undecided"))
            for reading in readings(known, "settled"):
                self.assertIn(reading, greatest)

    def test_none_settled(self):
        self.assertEqual(readings(ODD, "settled"), [])
        self.assertEqual(readings(ODD, "greatest"), [{"a": "undecided"}])
        for many in (1, 3, 5):
            self.assertEqual(readings(ring_of_unless(many), "settled"), [])
            self.assertEqual(len(readings(ring_of_unless(many), "whole")), 1)
        for many in (2, 4, 6):
            self.assertEqual(len(readings(ring_of_unless(many), "settled")), 2)
            self.assertEqual(len(readings(ring_of_unless(many), "whole")), 3)

    def test_edges(self):
        for way in WAYS:
            self.assertEqual(readings(Rules([], []), way), [{}])
            self.assertEqual(readings(Rules(["b", "a"], []), way), [{"a": "out", "b": "out"}])
            facts = Rules(["b", "a"], [("a", [], []), ("a", [], []), ("b", ["a"], [])])
            self.assertEqual(readings(facts, way), [{"a": "in", "b": "in"}])
            self.assertEqual(readings(Rules(["a"], [("a", ["a"], [])]), way), [{"a": "out"}])

    def test_at_the_limit(self):
        for size in (6, 8):
            known = thirty_rules(EIGHT[:size])
            self.assertEqual(len(known.triples()), 30)
            for way in WAYS:
                self.assertEqual(readings(known, way), readings_by_words(known, way) if size == 6 else
                                 readings(Rules(tuple(EIGHT), known.triples()), way))
        free = Rules(EIGHT[:6], [rule for at in (0, 2, 4) for rule in (
            (EIGHT[at], [], [EIGHT[at + 1]]), (EIGHT[at + 1], [], [EIGHT[at]]))])
        self.assertEqual([len(readings(free, way)) for way in WAYS], [27, 1, 8, 8])

    def test_new_each_time(self):
        readings(K, "settled")[0].clear()
        readings(K, "settled").clear()
        self.assertEqual(readings(K, "settled"), [IN_A, IN_B])

    def test_bad_way(self):
        for thing in not_words(WAYS) + ["calm", "held"]:
            self.refuses(BadWay, {"thing": thing}, readings, K, thing)
            self.refuses(BadWay, {"thing": thing}, is_reading, K, thing, None)


class TestIsReading(Case):
    def test_by_words(self):
        for known in small_rules()[::3] + drawn_rules(25, 3, 6, 303) + drawn_rules(5, 4, 8, 304):
            names = known.claims()
            for way in WAYS:
                right = readings_by_words(known, way)
                for row in label_rows(len(names)):
                    labels = dict(zip(names[::-1], row[::-1]))
                    self.assertIs(is_reading(known, way, labels), labels in right)

    def test_by_names(self):
        self.assertIs(is_reading(thing=IN_A, way="settled", known=K), True)
        self.assertIs(is_reading(thing=NONE_KNOWN, way="settled", known=K), False)

    def test_odd_objects(self):
        odd = any_objects() + [
            IN_A | {"d": "in"}, {"a": "in", "b": "out"}, IN_A | {"c": "out"}, IN_A | {"c": True}, IN_A | {"c": None},
            IN_A | {"c": ["in"]}, IN_A | {"c": "In"}, list(IN_A.items()), {1: "in", "b": "out", "c": "in"},
        ]
        for thing in odd:
            for way in WAYS:
                self.assertIs(is_reading(K, way, thing), False)
        self.assertIs(is_reading(Rules([], []), "whole", {}), True)
        self.assertIs(is_reading(Rules([], []), "whole", []), False)

    def test_nothing_is_changed(self):
        labels = dict(IN_A)
        is_reading(K, "greatest", labels)
        self.assertEqual(list(labels.items()), list(IN_A.items()))
