"""Points 55, 56 and 61: statements that stand by tables, and labels by these."""

import itertools

from objections.debates import Debate
from objections.errors import BadTables, BadWay
from objections.tables import Tabled, is_tabled_labelling, tabled_labellings
from tests.helper import (
    LABELS, Case, any_objects, ascending, drawn_tables, has_all, label_rows, not_lists, not_words, round_tables,
    rule_labellings, table_label, truth_rows,
)

WAYS = ["whole", "least", "greatest", "settled"]
NOT = [(False,)]
SAME = [(True,)]


def all_tabled():
    """All tables of one statement, and of two with one parent at most each."""
    rows = [[], [(False,)], [(True,)], [(False,), (True,)]]
    found = [Tabled([("a", (), some)]) for some in ([], [()])] + [Tabled([("a", ("a",), some)]) for some in rows]
    tables = [((), []), ((), [()])] + [((parent,), some) for parent in "ab" for some in rows]
    return found + [
        Tabled([("a", one[0], one[1]), ("b", two[0], two[1])]) for one, two in itertools.product(tables, repeat=2)
    ]


def many_tabled():
    return all_tabled() + drawn_tables(80, 4, 3, 110)


def labels_for(tabled):
    """The rule by its words, as a function from labels and a statement."""
    return lambda labels, name: table_label(tabled, labels, name)


def names_of(tabled):
    return [name for name, _, _ in tabled.tables()]


class TestTabled(Case):
    def test_tables(self):
        tabled = Tabled([("b", ("c", "a"), [(True, False), (False, False)]), ("c", (), [()]), ("a", (), [])])
        told = tabled.tables()
        self.assertEqual(told, [
            ("a", (), []), ("b", ("a", "c"), [(False, False), (False, True)]), ("c", (), [()]),
        ])
        self.assertIs(type(told), list)
        for table in told:
            self.assertEqual([type(part) for part in table], [str, tuple, list])
            self.assertIs(type(table), tuple)
            self.assertEqual({type(row) for row in table[2]} | {tuple}, {tuple})

    def test_by_name_and_lists_for_tuples(self):
        one = Tabled(tables=(["b", ["c", "a"], ((True, False), [False, False])], ["c", [], [[]]], ["a", (), ()]))
        other = Tabled([("a", (), []), ("c", (), [()]), ("b", ("a", "c"), [(False, False), (False, True)])])
        self.assertTrue(one == other)
        self.assertFalse(one != other)

    def test_all_turns_of_parents(self):
        rows = [row for row in truth_rows(4) if sum(row) == 2 or row[0]]
        right = Tabled([("s", tuple("abcd"), rows)] + [(name, (), []) for name in "abcd"])
        for turns in itertools.permutations(range(4)):
            moved = [tuple(row[turn] for turn in turns) for row in rows]
            one = Tabled([(name, (), []) for name in "dbca"] + [("s", tuple("abcd"[turn] for turn in turns), moved)])
            self.assertEqual(one.tables(), right.tables())
            self.assertTrue(one == right)

    def test_equal_by_tables_and_to_nothing_else(self):
        one = Tabled([("a", ("a",), SAME), ("b", (), [])])
        for other in (
            Tabled([("a", ("a",), NOT), ("b", (), [])]), Tabled([("a", ("b",), SAME), ("b", (), [])]),
            Tabled([("a", ("a",), SAME)]), Tabled([("a", ("a",), SAME), ("c", (), [])]),
            Tabled([("a", ("a",), SAME), ("b", (), [()])]),
        ):
            self.assertFalse(one == other)
            self.assertTrue(one != other)
        for thing in any_objects() + [one.tables()]:
            self.assertFalse(one == thing)
            self.assertFalse(thing == one)
        self.assertFalse(Tabled([]) == Debate([], []))
        self.assertTrue(Tabled([]) == Tabled(()))

    def test_copied_and_new(self):
        parents, row = ["b", "a"], [True, False]
        rows = [row]
        table = ["b", parents, rows]
        tables = [table, ["a", (), []]]
        tabled = Tabled(tables)
        self.assertEqual(tables, [["b", ["b", "a"], [[True, False]]], ["a", (), []]])
        for part in (parents, row, rows, table, tables, tabled.tables(), tabled.tables()[1][2]):
            part.clear()
        self.assertEqual(tabled.tables(), [("a", (), []), ("b", ("a", "b"), [(False, True)])])

    def test_errors(self):
        self.refuses_no_lists(BadTables, lambda thing: Tabled(thing))
        good = [("a", ("x", "a"), [(True, False)]), ("b", (), [()])]
        odd = any_objects() + [
            ("a", (), []), ("b", ("x",), []), ["a", [], []], ("c", ()), ("c", (), [], []), ("C", (), []),
            (None, (), []), (5, (), []), ("c", None, []), ("c", "a", []), ("c", ("A",), []), ("c", ("a", "a"), []),
            ("c", (None,), []), ("c", (["a"],), []), ("c", (), None), ("c", (), [None]), ("c", (), [True]),
            ("c", (), [(True,)]), ("c", ("a",), [()]), ("c", ("a",), [(1,)]), ("c", ("a",), [(0,)]),
            ("c", ("a",), [(None,)]), ("c", ("a",), [(True, True)]), ("c", ("a",), [(True,), [True]]),
            ("c", ("a",), [(True,), (False,), (True,)]), ("c", ("a",), "a"), ("c", ("a",), ["a"]),
            ("c", ("a",), [((True,),)]), ("c", {"a": 1}, []), ("c", ("a",), {(True,): 1}), ("c", (), [(), []]),
        ]
        for thing in odd:
            self.refuses(BadTables, {"index": 2}, Tabled, good + [thing, None])
        # Only where all are triples parents are looked for.
        self.refuses(BadTables, {"index": 0}, Tabled, good)
        self.refuses(BadTables, {"index": 2}, Tabled, [("b", (), []), ("a", ("b", "a"), []), ("c", ("a", "d"), [])])
        self.assertEqual(len(Tabled([("a", ("b",), []), ("b", ("a", "b"), [])]).tables()), 2)


class TestLabellings(Case):
    def test_plain_ones(self):
        plain = Tabled([("a", (), []), ("b", (), [()])])
        self.assertEqual(tabled_labellings(plain, "whole"), [{"a": "out", "b": "in"}])
        itself = Tabled([("a", ("a",), SAME)])
        self.assertEqual(tabled_labellings(itself, "whole"), [{"a": label} for label in LABELS])
        self.assertEqual(tabled_labellings(way="greatest", tabled=itself), [{"a": "in"}, {"a": "out"}])
        odd = Tabled([("a", ("a",), NOT)])
        self.assertEqual(tabled_labellings(odd, "whole"), [{"a": "undecided"}])
        self.assertEqual(tabled_labellings(odd, "settled"), [])
        idle = Tabled([("a", ("a",), NOT + SAME), ("b", ("a", "b"), [])])
        self.assertEqual(tabled_labellings(idle, "whole"), [{"a": "in", "b": "out"}])
        for way in WAYS:
            self.assertEqual(tabled_labellings(Tabled([]), way), [{}])

    def test_by_words(self):
        for tabled in many_tabled():
            for way in WAYS:
                told = tabled_labellings(tabled, way)
                self.assertEqual(told, rule_labellings(names_of(tabled), labels_for(tabled), way))
                self.assertTrue(all(ascending(labels) for labels in told))

    def test_what_the_least_one_has_all_have(self):
        for tabled in many_tabled():
            least = tabled_labellings(tabled, "least")[0]
            self.assertTrue(all(has_all(labels, least) for labels in tabled_labellings(tabled, "whole")))

    def test_at_the_limit(self):
        rows = [row for row in truth_rows(4) if sum(row) in (1, 2)]
        for share in (rows, truth_rows(4), [], rows[:3] + truth_rows(4)[-2:]):
            tabled = round_tables(share)
            for way in WAYS:
                right = rule_labellings(names_of(tabled), labels_for(tabled), way)
                self.assertEqual(tabled_labellings(tabled, way), right)

    def test_new_each_time(self):
        tabled = Tabled([("a", ("a",), SAME)])
        told = tabled_labellings(tabled, "whole")
        told[0].clear()
        told.clear()
        self.assertEqual(tabled_labellings(tabled, "whole"), [{"a": label} for label in LABELS])

    def test_errors(self):
        for thing in not_words(WAYS) + ["calm", "held"]:
            self.refuses(BadWay, {"thing": thing}, tabled_labellings, Tabled([]), thing)


class TestIsLabelling(Case):
    def test_by_words(self):
        for tabled in many_tabled()[::2]:
            names = names_of(tabled)
            right = rule_labellings(names, labels_for(tabled), "whole")
            for row in label_rows(len(names)):
                labels = dict(zip(names[::-1], row))
                self.assertIs(is_tabled_labelling(tabled, labels), labels in right)

    def test_any_objects(self):
        tabled = Tabled([("a", ("b",), SAME), ("b", ("a",), SAME)])
        good = {"a": "in", "b": "in"}
        self.assertIs(is_tabled_labelling(thing=good, tabled=tabled), True)
        for thing in any_objects() + [
            {"a": "in"}, good | {"c": "in"}, {"a": "in", "c": "in"}, {"a": True, "b": True}, {"a": ["in"], "b": "in"},
            list(good), list(good.items()), {"a": "in", ("b",): "in"}, {"a": "IN", "b": "IN"}, {"a": None, "b": None},
        ]:
            self.assertIs(is_tabled_labelling(tabled, thing), False)
        self.assertIs(is_tabled_labelling(Tabled([]), {}), True)
        for thing in not_lists() + [[], (), [{}]]:
            if thing != {}:
                self.assertIs(is_tabled_labelling(Tabled([]), thing), False)
