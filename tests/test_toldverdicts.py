"""Points 105, 106, 107, 112 and 113: verdicts, twins, and debates told back."""

import itertools

from objections.debates import Debate
from objections.errors import BadJudge, BadLot, BadNames, BadVerdict, NoDebate
from objections.labels import labels_of
from objections.lots import least_lot
from objections.otherdebates import cut_to
from objections.toldverdicts import are_twins, least_twin, told_back, verdict
from tests.helper import (
    Case, all_debates, any_objects, ascending, drawn_debates, not_functions, small_debates,
)
from tests.tablewords import all_verdicts, row_of, tables_of, twin_groups, verdict_by_words

EXAMPLE = Debate(["a", "b", "c"], [("a", "b"), ("b", "a"), ("b", "c"), ("c", "c")])


def judge_of(debate):
    """The judge that goes by a debate."""
    return lambda table: verdict_by_words(debate, table)


def three_named():
    return all_debates([]) + all_debates(["a"]) + all_debates(["a", "b"]) + all_debates(["a", "b", "c"])


class TestVerdicts(Case):
    def test_example(self):
        self.assertEqual(verdict(EXAMPLE, ["a", "b", "c"]), {"a": "undecided", "b": "undecided", "c": "undecided"})
        self.assertEqual(verdict(table=("c", "b"), debate=EXAMPLE), {"b": "in", "c": "out"})

    def test_by_words(self):
        for debate in small_debates():
            for table in tables_of(debate.statements()):
                told = verdict(debate, table[::-1])
                self.assertEqual(told, verdict_by_words(debate, table))
                part = cut_to(debate, table)
                self.assertEqual(told, labels_of(part, least_lot(part)))
                self.assertTrue(ascending(told))

    def test_bad_lot(self):
        self.refuses_no_lists(BadLot, verdict, EXAMPLE)
        for thing in ([], ()):
            self.refuses(BadLot, {"index": 0}, verdict, EXAMPLE, thing)
        for thing in any_objects() + ["b", "d", ["a"]]:
            if thing != "a":
                self.refuses(BadLot, {"index": 1}, verdict, EXAMPLE, ["b", thing, thing])

    def test_at_the_limit(self):
        debate = row_of(12)
        self.assertEqual(set(verdict(debate, debate.statements()).values()), {"undecided"})
        self.assertEqual(list(verdict(debate, debate.statements()[1:]).values()), ["in", "out"] * 5 + ["in"])

    def test_new_each_time(self):
        table = ["c", "b"]
        verdict(EXAMPLE, table).clear()
        self.assertEqual((len(verdict(EXAMPLE, table)), table), (2, ["c", "b"]))


class TestTwins(Case):
    def test_example(self):
        self.assertEqual(least_twin(EXAMPLE), EXAMPLE)

    def test_who_objects_to_oneself_both_ways(self):
        both = Debate(["a", "b"], [("a", "a"), ("b", "b"), ("a", "b"), ("b", "a")])
        self.assertEqual(least_twin(both).objections(), [("a", "a"), ("b", "b")])
        one = Debate(["a", "b"], [("a", "a"), ("a", "b"), ("b", "a")])
        self.assertEqual(least_twin(one).objections(), [("a", "a"), ("a", "b")])
        self.assertEqual(least_twin(Debate(["a", "b"], [("b", "b"), ("a", "b"), ("b", "a")])).objections(), [
            ("b", "a"), ("b", "b")])
        pairs = [("a", "a"), ("b", "a")]
        self.assertEqual(least_twin(Debate(["a", "b"], pairs)).objections(), pairs)
        self.assertEqual(least_twin(debate=Debate(["a", "b"], [("a", "b"), ("b", "a")])).objections(), [
            ("a", "b"), ("b", "a")])

    def test_it_is_the_twin_with_fewest_objections(self):
        for names in ((), ("a",), ("a", "b"), ("a", "b", "c")):
            for group in twin_groups(names):
                self.assertEqual([len(one.objections()) for one in group].count(len(group[0].objections())), 1)
                for debate in group:
                    self.assertEqual(least_twin(debate), group[0])

    def test_twins(self):
        debates = three_named()
        for one, other in itertools.product(debates[::5], debates[::11]):
            same = one.statements() == other.statements() and all_verdicts(one, 9) == all_verdicts(other, 9)
            self.assertIs(are_twins(one, other), same)
            if one.statements() == other.statements():
                self.assertEqual(same, all_verdicts(one, 2) == all_verdicts(other, 2))
            self.assertEqual(same, least_twin(one) == least_twin(other))
        for debate in debates:
            self.assertIs(are_twins(other=least_twin(debate), one=debate), True)
        self.assertIs(are_twins(Debate(["a"], []), Debate(["b"], [])), False)
        self.assertIs(are_twins(Debate(["a"], []), Debate([], [])), False)

    def test_greater_ones(self):
        for debate in drawn_debates(20, 5, 600):
            self.assertEqual(all_verdicts(debate, 5), all_verdicts(least_twin(debate), 5))
        for debate in drawn_debates(10, 12, 601):
            self.assertTrue(are_twins(debate, least_twin(debate)))


class TestToldBack(Case):
    def test_by_debates(self):
        for debate in three_named() + drawn_debates(10, 5, 602) + drawn_debates(2, 8, 603):
            names = debate.statements()
            self.assertEqual(told_back(names[::-1], judge_of(debate)), least_twin(debate))
        self.assertEqual(told_back(judge=judge_of(EXAMPLE), names=("c", "a", "b")), EXAMPLE)
        self.assertEqual(told_back([], None.__eq__), Debate([], []))

    def test_at_the_limit(self):
        for debate in [row_of(12)] + drawn_debates(2, 12, 604):
            told = told_back(debate.statements(), lambda table: verdict(debate, table))
            self.assertEqual(told, least_twin(debate))

    def test_how_it_asks(self):
        for many in range(5):
            names = ["d", "b", "a", "c"][:many]
            asked = []
            told_back(names, lambda table: asked.append(table) or {name: "in" for name in table})
            right = [tuple(table) for table in tables_of(names) if len(table) < 3]
            self.assertEqual(asked, right)
            self.assertEqual(len(asked), many * (many + 1) // 2)
            self.assertEqual({type(table) for table in asked}, {tuple} if many else set())
            self.assertEqual(names, ["d", "b", "a", "c"][:many])

    def test_all_that_judges_may_tell_of_two(self):
        """By going through all verdicts on a, b and both: either a least twin has them, or no debate does."""
        words = ["in", "out", "undecided"]
        for row in itertools.product(words, repeat=4):
            told = {("a",): {"a": row[0]}, ("b",): {"b": row[1]}, ("a", "b"): {"b": row[3], "a": row[2]}}
            fit = [
                group[0] for group in twin_groups(("a", "b"))
                if all(verdict_by_words(group[0], table) == told[table] for table in told)
            ]
            if fit:
                self.assertEqual([told_back(["a", "b"], lambda table: told[table])], fit)
                continue
            with self.assertRaises(NoDebate) as caught:
                told_back(["b", "a"], lambda table: told[table])
            records = [(["a"], {"a": row[0]}), (["b"], {"b": row[1]}), (["a", "b"], {"a": row[2], "b": row[3]})]
            self.assertEqual(caught.exception.records, records)
            self.assertTrue(all(ascending(share) for _, share in caught.exception.records))
            self.assertEqual({type(record) for record in caught.exception.records}, {tuple})

    def test_no_debate_behind_all_questions(self):
        asked = []

        def judge(table):
            asked.append(table)
            return {name: "out" for name in table[::-1]}

        self.refuses(NoDebate, {"records": [
            (["a"], {"a": "out"}), (["b"], {"b": "out"}), (["a", "b"], {"a": "out", "b": "out"})]},
            told_back, ["a", "b"], judge)
        self.assertEqual(len(asked), 3)

    def test_bad_verdict(self):
        odd = any_objects() + [
            {"a": "in"}, {"a": "in", "b": "in", "c": "in"}, {"a": "in", "b": "gone"}, {"a": "in", "b": None},
            {"a": "in", "c": "in"}, [("a", "in"), ("b", "in")], {"a": "in", "b": ["in"]}, {"a": "in", 1: "in"},
        ]
        for thing in odd:
            asked = []

            def judge(table):
                asked.append(table)
                return thing if len(table) == 2 else {table[0]: "in"}

            with self.assertRaises(BadVerdict) as caught:
                told_back(["c", "b", "a"], judge)
            self.assertEqual((caught.exception.table, type(caught.exception.table)), (("a", "b"), tuple))
            self.assertIs(caught.exception.thing, thing)
            self.assertEqual(len(asked), 4)

    def test_errors_in_their_order(self):
        odd = any_objects() + ["ab", ["a", "A"], ["a", "a"], {"a": 1}, ("a", None), [["a"]]]
        for thing in odd:
            if thing not in ([], (), ("none",)):
                self.refuses(BadNames, {"thing": thing}, told_back, thing, None)
        for thing in not_functions():
            self.refuses(BadJudge, {"thing": thing}, told_back, ["a"], thing)
            self.refuses(BadJudge, {"thing": thing}, told_back, [], thing)
        with self.assertRaises(ZeroDivisionError):
            told_back(["a"], lambda table: len(table) // 0)

    def test_facts(self):
        """A table on which all are in tells that there is no objection between its statements."""
        for debate in three_named():
            for table in tables_of(debate.statements()):
                if set(verdict(debate, table).values()) == {"in"}:
                    self.assertEqual(cut_to(debate, table).objections(), [])
        # One with more than two statements may tell less than its parts.
        ring = Debate(["a", "b", "c"], [("a", "b"), ("b", "c"), ("c", "a")])
        turned = Debate(["a", "b", "c"], [("b", "a"), ("c", "b"), ("a", "c")])
        self.assertEqual(verdict(ring, ["a", "b", "c"]), verdict(turned, ["a", "b", "c"]))
        self.assertNotEqual(verdict(ring, ["a", "b"]), verdict(turned, ["a", "b"]))
