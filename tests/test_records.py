"""Points 108, 109, 112 and 113: what fits records, and records that clash."""

import itertools

from objections.debates import Debate
from objections.errors import BadNames, BadRecords
from objections.records import fitting, possible_objections, record_clash, sure_objections
from objections.toldverdicts import least_twin
from tests.helper import Case, all_debates, any_objects
from tests.tablewords import (
    drawn_records, fits_by_words, fitting_groups, not_records, odd_records, pairs_of_names, verdict_by_words,
)

TOLD = [(["a", "b"], {"a": "in", "b": "out"})]


def cases():
    """Pairs of names and records, some of which fit nothing."""
    found = [([], []), (["a"], []), (["b", "a"], []), (["b", "c", "a"], [])]
    for seed in range(60):
        names = ["b", "a", "c"][:1 + seed % 3]
        found.append((names, drawn_records(names, seed % 5, seed)))
        found.append((names, odd_records(names, 1 + seed % 2, seed)))
    return found


def every_debate(names, records):
    """All debates, not least twins alone, that fit."""
    return [debate for group in fitting_groups(names, records) for debate in group]


class TestFitting(Case):
    def test_example(self):
        self.assertEqual(sure_objections(["a", "b"], TOLD), [("a", "b")])
        self.assertEqual(possible_objections(["a", "b"], TOLD), [("a", "b"), ("b", "b")])
        self.assertEqual(fitting(records=TOLD, names=["b", "a"]), [
            Debate(["a", "b"], [("a", "b")]), Debate(["a", "b"], [("a", "b"), ("b", "b")])])

    def test_by_words(self):
        for names, records in cases():
            right = [group[0] for group in fitting_groups(names, records)]
            told = fitting(names, records)
            self.assertEqual(told, right, (names, records))
            self.assertEqual([least_twin(debate) for debate in told], told)
            keys = [(len(debate.objections()), debate.objections()) for debate in told]
            self.assertEqual(keys, sorted(keys))

    def test_sure_and_possible_ones(self):
        for names, records in cases():
            every = [debate.objections() for debate in every_debate(names, records)]
            pairs = pairs_of_names(names)
            sure = [pair for pair in pairs if all(pair in row for row in every)]
            possible = [pair for pair in pairs if any(pair in row for row in every)]
            self.assertEqual(sure_objections(names, records), sure)
            self.assertEqual(possible_objections(records=records, names=names), possible)
            if not every:
                self.assertEqual((sure, possible), (pairs, []))

    def test_more_records(self):
        for names, records in cases()[::3]:
            for many in range(len(records)):
                self.assertLessEqual(
                    set(sure_objections(names, records[:many])), set(sure_objections(names, records)))
                self.assertGreaterEqual(
                    set(possible_objections(names, records[:many])), set(possible_objections(names, records)))

    def test_what_the_least_twin_leaves_out_is_not_sure(self):
        for debate in all_debates(["a", "b"]) + all_debates(["a", "b", "c"])[::13]:
            names = debate.statements()
            records = [([name], verdict_by_words(debate, [name])) for name in names]
            for pair in debate.objections():
                if pair not in least_twin(debate).objections():
                    self.assertNotIn(pair, sure_objections(names, records))
                    self.assertIn(pair, possible_objections(names, records))

    def test_edges(self):
        self.assertEqual(fitting([], []), [Debate([], [])])
        self.assertEqual((sure_objections([], []), possible_objections([], [])), ([], []))
        self.assertEqual(fitting(("a",), ([("a",), {"a": "undecided"}],)), [Debate(["a"], [("a", "a")])])
        nothing = [(["a"], {"a": "out"})]
        self.assertEqual(fitting(["a"], nothing), [])
        self.assertEqual((sure_objections(["a"], nothing), possible_objections(["a"], nothing)), ([("a", "a")], []))
        twice = TOLD + [(("b", "a"), {"b": "out", "a": "in"})]
        self.assertEqual(fitting(["a", "b"], twice), fitting(["a", "b"], TOLD))
        self.assertEqual(len(fitting(["a", "b", "c"], [])), 200)

    def test_at_the_limit(self):
        names = ["a", "b", "c"]
        records = drawn_records(names, 12, 7)
        self.assertEqual(fitting(names, records), [group[0] for group in fitting_groups(names, records)])
        self.assertTrue(sure_objections(names, records) or possible_objections(names, records))

    def test_new_each_time_and_nothing_changed(self):
        records = [(["b", "a"], {"b": "out", "a": "in"})]
        for call in (fitting, sure_objections, possible_objections):
            kept = call(["a", "b"], records)
            call(["a", "b"], records).clear()
            self.assertEqual(call(["a", "b"], records), kept)
        self.assertEqual(records, [(["b", "a"], {"b": "out", "a": "in"})])
        self.assertEqual(list(records[0][1]), ["b", "a"])

    def test_errors_in_their_order(self):
        for call in (fitting, sure_objections, possible_objections, record_clash):
            for thing in any_objects() + ["ab", ["a", "A"], ["a", "a"], {"a": 1}]:
                if thing not in ([], (), ("none",)):
                    self.refuses(BadNames, {"thing": thing}, call, thing, None)
            self.refuses_no_lists(BadRecords, call, ["a", "b"])
            for thing in any_objects() + not_records():
                self.refuses(BadRecords, {"index": 1}, call, ["a", "b"], TOLD + [thing, None])
            self.refuses(BadRecords, {"index": 0}, call, [], TOLD)


class TestClashes(Case):
    def clash_by_words(self, names, records):
        debates = [debate for group in fitting_groups(names, []) for debate in group[:1]]
        for many in range(len(records) + 1):
            for row in itertools.combinations(range(len(records)), many):
                if not any(fits_by_words(debate, [records[at] for at in row]) for debate in debates):
                    return list(row)
        return None

    def test_by_words(self):
        for names, records in cases():
            told = record_clash(names, records)
            self.assertEqual(told, self.clash_by_words(names, records))
            self.assertEqual(told is None, fitting(names, records) != [])

    def test_edges(self):
        self.assertIsNone(record_clash([], []))
        self.assertIsNone(record_clash(records=TOLD + TOLD, names=["a", "b"]))
        self.assertEqual(record_clash(["a", "b"], TOLD + [(["b"], {"b": "out"})]), [1])
        self.assertEqual(record_clash(["a", "b"], TOLD + [(["a"], {"a": "undecided"})]), [0, 1])
        names = ["a", "b", "c"]
        none = [(pair, {name: "in" for name in pair}) for pair in (["a", "b"], ["a", "c"], ["b", "c"])]
        told = none + [(names, {"a": "in", "b": "in", "c": "undecided"})]
        self.assertEqual(record_clash(names, told), [1, 3])

    def test_of_one_and_two_statements_by_one_alone_or_two(self):
        for names, records in cases():
            few = [record for record in records if len(record[0]) < 3]
            told = record_clash(names, few)
            self.assertTrue(told is None or len(told) < 3)

    def test_three_that_clash_together(self):
        """Records of three statements may clash by three where no two of them do."""
        names = ["a", "b", "c"]
        records = [
            (["a", "c"], {"a": "undecided", "c": "in"}), (["b"], {"b": "in"}), (["b", "c"], {"b": "in", "c": "in"}),
            (names, {"a": "undecided", "b": "undecided", "c": "undecided"}),
        ]
        self.assertEqual(record_clash(names, records), [0, 2, 3])
        self.assertEqual(self.clash_by_words(names, records), [0, 2, 3])

    def test_at_the_limit(self):
        names = ["a", "b", "c"]
        records = drawn_records(names, 11, 8) + [(names, {"a": "undecided", "b": "in", "c": "undecided"})]
        self.assertEqual(record_clash(names, records), self.clash_by_words(names, records))
        self.assertIsNone(record_clash(names, drawn_records(names, 12, 9)))

    def test_new_each_time(self):
        records = [(["a"], {"a": "out"})]
        record_clash(["a"], records).clear()
        self.assertEqual(record_clash(["a"], records), [0])
