"""Points 110, 111, 112 and 113: fewest questions, and askers that are beaten."""

import itertools
import random

from objections.askers import beat_asker, best_tables, questions_left
from objections.debates import Debate
from objections.errors import BadAsker, BadNames, BadNumber, BadRecords, CanBeTold, NothingFits, NoTable
from objections.records import fitting
from objections.toldverdicts import least_twin
from tests.helper import Case, any_objects, ascending, not_functions, not_numbers
from tests.tablewords import (
    drawn_records, fits_by_words, fitting_groups, not_records, odd_records, tables_of, verdict_by_words,
)

TOLD = [(["a", "b"], {"a": "in", "b": "out"})]
NAMES = ["a", "b", "c"]


def split_by(group, table):
    """The lists of debates that have each of the verdicts on a table."""
    parts = {}
    for debate in group:
        parts.setdefault(tuple(sorted(verdict_by_words(debate, table).items())), []).append(debate)
    return list(parts.values())


def is_told_by(group, tables, many, known):
    """Whether just one of some debates is left behind so many tables, whatever the verdicts are."""
    if len(group) < 2 or many == 0:
        return len(group) < 2
    key = (many, tuple(tuple(debate.objections()) for debate in group))
    if key not in known:
        known[key] = any(
            all(is_told_by(part, tables, many - 1, known) for part in split_by(group, table)) for table in tables)
    return known[key]


def left_by_words(names, records):
    """The fewest questions, and the tables by which to begin with so few."""
    group = [twins[0] for twins in fitting_groups(names, records)]
    tables, known = tables_of(names), {}
    many = [many for many in range(9) if is_told_by(group, tables, many, known)][0]
    if many == 0:
        return 0, []
    return many, [
        table for table in tables if all(is_told_by(part, tables, many - 1, known) for part in split_by(group, table))]


def cases():
    """Pairs of names and records that fit some debate."""
    found = [([], []), (["a"], []), (["b", "a"], []), (["a", "b"], TOLD)]
    for seed in range(40):
        names = ["b", "a", "c"][:1 + seed % 3]
        records = drawn_records(names, 1 + seed % 4, 800 + seed)
        found.append((names, records))
    return found



def drawn_asker(names, seed):
    """An asker that answers alike whenever it is asked alike."""
    def asker(records):
        draw = random.Random(repr((seed, records)))
        return draw.sample(names, draw.randint(1, len(names)))
    return asker


class TestQuestions(Case):
    def test_example(self):
        self.assertEqual(questions_left(["a", "b"], TOLD), 1)
        self.assertEqual(best_tables(["a", "b"], TOLD), [["b"]])

    def test_by_words(self):
        for names, records in cases():
            many, tables = left_by_words(names, records)
            self.assertEqual(questions_left(records=records, names=names), many)
            self.assertEqual(best_tables(records=records, names=names), tables)

    def test_nothing_known(self):
        self.assertEqual([questions_left(NAMES[:many], []) for many in (0, 1, 2)], [0, 1, 3])
        self.assertEqual(best_tables([], []), [])
        self.assertEqual(best_tables(["a"], []), [["a"]])
        self.assertEqual(best_tables(["b", "a"], []), [["a"], ["b"], ["a", "b"]])
        both = [(["a", "b"], {"a": "undecided", "b": "undecided"})]
        self.assertEqual(len(fitting(["a", "b"], both)), 4)
        self.assertEqual(questions_left(["a", "b"], both), 2)

    def test_three_names_at_the_limit(self):
        many = questions_left(NAMES, [])
        group = fitting(NAMES, [])
        tables, known = tables_of(NAMES), {}
        self.assertTrue(is_told_by(group, tables, many, known))
        self.assertFalse(is_told_by(group, tables, many - 1, known))
        self.assertEqual(best_tables(NAMES, []), [
            table for table in tables
            if all(is_told_by(part, tables, many - 1, known) for part in split_by(group, table))])
        records = drawn_records(NAMES, 12, 801)
        self.assertEqual((questions_left(NAMES, records), best_tables(NAMES, records)), left_by_words(NAMES, records))

    def test_one_fits_already(self):
        records = [(["a"], {"a": "in"}), (["b"], {"b": "undecided"}), (["a", "b"], {"a": "out", "b": "undecided"})]
        told = [(["a"], {"a": "in"}), (["b"], {"b": "in"}), (["a", "b"], {"a": "out", "b": "in"})]
        self.assertEqual((questions_left(["a", "b"], told), best_tables(["a", "b"], told)), (0, []))
        self.refuses(NothingFits, {}, questions_left, ["a", "b"], records)
        self.refuses(NothingFits, {}, best_tables, ["a", "b"], records)

    def test_errors_in_their_order(self):
        for call in (questions_left, best_tables, lambda names, records: beat_asker(names, records, None, None)):
            for thing in any_objects() + ["ab", ["a", "A"], ["a", "a"]]:
                if thing not in ([], (), ("none",)):
                    self.refuses(BadNames, {"thing": thing}, call, thing, None)
            self.refuses_no_lists(BadRecords, call, ["a", "b"])
            for thing in any_objects() + not_records():
                self.refuses(BadRecords, {"index": 1}, call, ["a", "b"], TOLD + [thing, None])

    def test_new_each_time(self):
        best_tables(["a", "b"], TOLD)[0].clear()
        best_tables(["a", "b"], TOLD).clear()
        self.assertEqual(best_tables(["a", "b"], TOLD), [["b"]])


class TestBeaten(Case):
    def check(self, names, records, asker, many):
        """What beat_asker tells: the records with the asker's tables, and two unlike least twins that fit all."""
        told, one, other = beat_asker(names, records, asker, many)
        self.assertEqual(len(told), len(records) + many)
        for (table, share), (first, last) in zip(told, records):
            self.assertEqual((table, share), (sorted(first), last))
        for number in range(len(records), len(told)):
            ahead = tuple((tuple(table), tuple(share.items())) for table, share in told[:number])
            self.assertEqual(told[number][0], sorted(asker(ahead)))
        for table, share in told:
            self.assertEqual((type(table), type(share), table), (list, dict, sorted(table)))
            self.assertTrue(ascending(share))
        self.assertEqual({type(record) for record in told}, {tuple} if told else set())
        self.assertFalse(one == other)
        for debate in (one, other):
            self.assertEqual(debate.statements(), sorted(names))
            self.assertEqual(least_twin(debate), debate)
            self.assertTrue(fits_by_words(debate, told))

    def test_example(self):
        self.check(["a", "b"], TOLD, lambda _: None, 0)
        told, one, other = beat_asker(many=0, asker=len, records=TOLD, names=["a", "b"])
        self.assertEqual(told, TOLD)
        self.assertEqual({len(one.objections()), len(other.objections())}, {1, 2})

    def test_each_asker_is_beaten(self):
        for names, records in cases():
            left = questions_left(names, records)
            for many in range(left):
                for seed in range(3):
                    self.check(names, records, drawn_asker(names, seed), many)

    def test_all_askers_of_two_names(self):
        """By going through all that ask for tables in turn, whatever is told."""
        tables = [["a"], ("b",), ["b", "a"]]
        for many in (1, 2):
            for row in itertools.product(tables, repeat=many):
                self.check(["a", "b"], [], lambda records: row[len(records)], many)

    def test_at_the_limit(self):
        left = questions_left(NAMES, [])
        for seed in range(6):
            self.check(NAMES, [], drawn_asker(NAMES, seed), left - 1)
        best = best_tables(NAMES, [])[0]
        self.check(NAMES, [], lambda _: best, left - 1)

    def test_who_goes_by_the_fewest_knows_it(self):
        """An asker that begins with best_tables each time knows the least twin behind so many questions."""
        for debate in fitting(NAMES, [])[::9] + fitting(["a", "b"], []):
            names, records = debate.statements(), []
            for _ in range(questions_left(names, [])):
                tables = best_tables(names, records)
                if tables:
                    records.append((tables[0], verdict_by_words(debate, tables[0])))
            self.assertEqual(fitting(names, records), [debate])

    def test_how_it_is_asked(self):
        asked = []

        def asker(records):
            asked.append(records)
            return [["b"], ["b", "a"]][len(asked) - 1]

        records = [[("b", "a"), {"b": "undecided", "a": "undecided"}]]
        told, _, _ = beat_asker(["a", "b"], records, asker, 1)
        self.assertEqual(asked, [((("a", "b"), (("a", "undecided"), ("b", "undecided"))),)])
        self.assertEqual(told[0], (["a", "b"], {"a": "undecided", "b": "undecided"}))
        self.assertEqual(records, [[("b", "a"), {"b": "undecided", "a": "undecided"}]])
        self.assertEqual(list(records[0][1]), ["b", "a"])

    def test_the_same_table_again(self):
        told, _, _ = beat_asker(["a", "b"], [], lambda _: ["b"], 2)
        self.assertEqual(told[0], told[1])
        told[0][1].clear()
        self.assertEqual(len(told[1][1]), 1)
        self.assertEqual(len(beat_asker(["a", "b"], [], lambda _: ["b"], 2)[0][0][1]), 1)

    def test_no_table(self):
        for thing in any_objects() + [["c"], ["a", "c"], ["a", "a"], "a", ("b", "b"), [["a"]], {"a": 1}, []]:
            asked = []
            self.refuses(NoTable, {"thing": thing}, beat_asker, ["a", "b"], [],
                         lambda records: asked.append(records) or thing, 2)
            self.assertEqual(len(asked), 1)
        self.refuses(
            NoTable, {"thing": None}, beat_asker, ["a", "b"], [], lambda records: None if records else ["a"], 2)
        with self.assertRaises(ZeroDivisionError):
            beat_asker(["a", "b"], [], lambda _: 1 // 0, 1)
        self.assertEqual(beat_asker(["a", "b"], [], lambda _: 1 // 0, 0)[0], [])

    def test_errors_in_their_order(self):
        nothing = [(["a"], {"a": "out"})]
        for thing in not_functions():
            self.refuses(BadAsker, {"thing": thing}, beat_asker, ["a"], nothing, thing, None)
        for thing in not_numbers():
            self.refuses(BadNumber, {"thing": thing}, beat_asker, ["a"], nothing, len, thing)
        for many in (0, 5):
            self.refuses(NothingFits, {}, beat_asker, ["a"], nothing, len, many)
        for many in (3, 4, 999999999):
            self.refuses(CanBeTold, {}, beat_asker, ["a", "b"], [], len, many)
        self.refuses(CanBeTold, {}, beat_asker, ["a", "b"], TOLD, len, 1)
        self.refuses(CanBeTold, {}, beat_asker, [], [], len, 0)

    def test_alike(self):
        for names, records in cases():
            left = questions_left(names, records)
            if left:
                asker = drawn_asker(names, 5)
                again = [[table[::-1], dict(reversed(share.items()))] for table, share in records]
                told = beat_asker(tuple(names), tuple(again), asker, left - 1)
                self.assertEqual(beat_asker(names, records, asker, left - 1), told)


class TestFacts(Case):
    def test_many_records_clash_or_not(self):
        for seed in range(20):
            records = odd_records(["a", "b"], 2, 810 + seed)
            if not fitting(["a", "b"], records):
                self.refuses(NothingFits, {}, questions_left, ["a", "b"], records)
            else:
                self.assertEqual(questions_left(["a", "b"], records), left_by_words(["a", "b"], records)[0])

    def test_both_undecided(self):
        undecided = {"a": "undecided", "b": "undecided"}
        self.assertEqual(len(fitting(["a", "b"], [(["a", "b"], undecided)])), 4)
        self.assertEqual(max(len(fitting(["a", "b"], [(["a", "b"], {"a": one, "b": other})])) for one, other in (
            itertools.product(["in", "out", "undecided"], repeat=2))), 4)
        self.assertEqual(fitting(["a", "b"], [(["a", "b"], {"a": "in", "b": "in"})]), [Debate(["a", "b"], [])])
