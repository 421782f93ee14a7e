"""Points 57, 58, 59 and 61: conditions against statements, and tables made plain, or by groups."""

import itertools

from objections.conditions import by_groups, conditions, leanings, not_by_groups, tables_made_plain
from objections.debates import Debate
from objections.errors import NoStatement
from objections.groups import Grouped
from objections.parts import labels_by_parts
from objections.tables import Tabled, tabled_labellings
from tests.helper import (
    Case, any_objects, ascending, drawn_tables, group_label, label_rows, plain_labels, plain_of_way, round_tables,
    subsets, table_label, truth_rows,
)

ROWS = [row for row in truth_rows(3) if not (row[0] and row[1]) and not (row[2] and not row[0])]
EXAMPLE = Tabled([("s", ("x", "y", "z"), ROWS)] + [(name, (), [()]) for name in "xyz"])


def functions_of(many):
    """A table for each lot of rows of so many parents, the statement s alone having parents."""
    names = list("abcd")[:many]
    others = [(name, (), []) for name in names]
    return [Tabled([("s", tuple(names), rows)] + others) for rows in subsets(truth_rows(many))]


def many_tabled():
    return functions_of(0) + functions_of(1) + functions_of(2) + functions_of(3)[::3] + drawn_tables(60, 5, 4, 120)


def names_of(tabled):
    return [name for name, _, _ in tabled.tables()]


def conditions_by_words(parents, rows):
    found = []
    for labels in label_rows(len(parents)):
        ins = tuple(parent for parent, label in zip(parents, labels) if label == "in")
        outs = tuple(parent for parent, label in zip(parents, labels) if label == "out")
        truths = [dict(zip(parents, row)) for row in rows]
        if not any(all(row[one] for one in ins) and not any(row[one] for one in outs) for row in truths):
            found.append((ins, outs))
    return sorted(
        (ins, outs) for ins, outs in found if not any(
            (less, others) != (ins, outs) and set(less) <= set(ins) and set(others) <= set(outs)
            for less, others in found
        )
    )


def leaning_by_words(parents, rows, place):
    ups = downs = False
    for row in truth_rows(len(parents)):
        other = row[:place] + (not row[place],) + row[place + 1:]
        if row not in rows and other in rows:
            ups, downs = ups or other[place], downs or row[place]
    return {(True, True): "both", (True, False): "up", (False, True): "down", (False, False): "none"}[ups, downs]


def parting_by_words(tabled):
    """The first statement with the first two rows of point 59."""
    for name, parents, rows in tabled.tables():
        always = [place for place in range(len(parents)) if all(row[place] for row in rows)]
        found = [
            (row, other) for row in rows for other in truth_rows(len(parents))
            if other not in rows and all(other[place] for place in always)
            and not any(one and not two for one, two in zip(other, row))
        ]
        if found:
            return (name,) + min(found)
    return None


class TestConditions(Case):
    def test_example(self):
        self.assertEqual(conditions(EXAMPLE, "s"), [(("x", "y"), ()), (("y", "z"), ()), (("z",), ("x",))])
        self.assertEqual(leanings(EXAMPLE, "s"), {"x": "both", "y": "down", "z": "down"})
        self.assertEqual(conditions(statement="x", tabled=EXAMPLE), [])
        self.assertEqual(leanings(statement="x", tabled=EXAMPLE), {})

    def test_edges(self):
        tabled = Tabled([
            ("a", (), []), ("b", ("b",), []), ("c", ("c",), [(True,), (False,)]), ("d", ("d",), [(True,)]),
        ])
        self.assertEqual([conditions(tabled, name) for name in "abcd"], [[((), ())], [((), ())], [], [((), ("d",))]])
        self.assertEqual([leanings(tabled, name) for name in "abcd"], [{}, {"b": "none"}, {"c": "none"}, {"d": "up"}])

    def test_by_words(self):
        for tabled in many_tabled():
            for name, parents, rows in tabled.tables():
                told = conditions(tabled, name)
                self.assertEqual(told, conditions_by_words(parents, rows))
                self.assertTrue(all(type(ins) is tuple and type(outs) is tuple for ins, outs in told))
                leaning = leanings(tabled, name)
                self.assertTrue(ascending(leaning))
                right = {parent: leaning_by_words(parents, rows, place) for place, parent in enumerate(parents)}
                self.assertEqual(leaning, right)

    def test_leanings_in_least_conditions(self):
        sides = {"up": (False, True), "down": (True, False), "both": (True, True), "none": (False, False)}
        for tabled in many_tabled():
            for name in names_of(tabled):
                found = conditions(tabled, name)
                for parent, leaning in leanings(tabled, name).items():
                    told = (any(parent in ins for ins, _ in found), any(parent in outs for _, outs in found))
                    self.assertEqual(told, sides[leaning])

    def test_passed_in_another_order(self):
        rows = [(last, first, middle) for first, middle, last in ROWS]
        turned = Tabled([(name, (), [()]) for name in "zyx"] + [("s", ("z", "x", "y"), rows)])
        self.assertEqual(conditions(turned, "s"), conditions(EXAMPLE, "s"))
        self.assertEqual(not_by_groups(turned), not_by_groups(EXAMPLE))

    def test_new_each_time(self):
        conditions(EXAMPLE, "s").clear()
        leanings(EXAMPLE, "s").clear()
        self.assertEqual((len(conditions(EXAMPLE, "s")), len(leanings(EXAMPLE, "s"))), (3, 3))

    def test_no_statement(self):
        for call in (conditions, leanings):
            for thing in any_objects() + ["t", ["s"], ("s",)]:
                self.refuses(NoStatement, {"thing": thing}, call, EXAMPLE, thing)


class TestMadePlain(Case):
    def check(self, tabled):
        debate, words = tables_made_plain(tabled)
        names = names_of(tabled)
        self.assertEqual(sorted(names + list(words)), debate.statements())
        self.assertTrue(ascending(words))
        self.assertEqual(len(set(words.values())), len(words))
        for word in words.values():
            self.assertIs(type(word), tuple)
            self.assertEqual(len(word), 2 if word[0] == "not" else 3)
            self.assertIn(word[0], ("not", "condition"))
        return debate, words

    def test_labellings_are_one_to_one(self):
        for tabled in many_tabled():
            debate, words = self.check(tabled)
            names = names_of(tabled)
            told = [{name: labels[name] for name in names} for labels in plain_labels(debate, words, names)]
            self.assertEqual(told, tabled_labellings(tabled, "whole"))
            least = {word for word in words.values() if word[0] == "condition"}
            right = {("condition",) + pair for name in names for pair in conditions(tabled, name)}
            self.assertEqual(least, right)

    def test_so_least_greatest_and_settled_ones_are_such(self):
        for tabled in many_tabled()[::3]:
            debate, words = self.check(tabled)
            names = names_of(tabled)
            found = plain_labels(debate, words, names)
            for way in ("least", "greatest", "settled"):
                told = [{name: labels[name] for name in names} for labels in plain_of_way(found, way)]
                self.assertEqual(told, tabled_labellings(tabled, way))

    def test_there_are_no_other_labellings(self):
        for tabled in drawn_tables(40, 4, 3, 121):
            debate, words = self.check(tabled)
            right = sorted(sorted(labels.items()) for labels in plain_labels(debate, words, names_of(tabled)))
            self.assertEqual(sorted(list(labels.items()) for labels in labels_by_parts(debate)), right)

    def test_names_that_further_ones_might_take(self):
        names = [f"x{at}" for at in range(5)]
        tabled = Tabled([(name, tuple(names[:3]), ROWS) for name in names])
        debate, words = self.check(tabled)
        told = [{name: labels[name] for name in names} for labels in plain_labels(debate, words, names)]
        self.assertEqual(told, tabled_labellings(tabled, "whole"))

    def test_at_the_limit(self):
        tabled = round_tables([row for row in truth_rows(4) if sum(row) == 2])
        names = names_of(tabled)
        debate, words = self.check(tabled)
        told = [{name: labels[name] for name in names} for labels in plain_labels(debate, words, names)]
        self.assertEqual(told, tabled_labellings(tabled, "whole"))

    def test_nothing(self):
        self.assertEqual(tables_made_plain(Tabled([])), (Debate([], []), {}))
        told = tables_made_plain(tabled=Tabled([("a", (), []), ("b", (), [()])]))
        self.assertEqual(list(told[1].values()), [("condition", (), ())])

    def test_the_same_for_equal_ones(self):
        for tabled in drawn_tables(20, 4, 3, 122):
            turned = Tabled([(name, parents[::-1], [row[::-1] for row in rows[::-1]])
                             for name, parents, rows in tabled.tables()[::-1]])
            self.assertEqual(tables_made_plain(turned), tables_made_plain(tabled))
            self.assertEqual(by_groups(turned), by_groups(tabled))


class TestByGroups(Case):
    def test_example(self):
        self.assertEqual(not_by_groups(EXAMPLE), ("s", (True, False, True), (False, False, True)))
        self.assertIsNone(by_groups(EXAMPLE))

    def test_just_one(self):
        both = [0, 0]
        for tabled in many_tabled() + functions_of(4)[::1500] + drawn_tables(150, 3, 2, 123):
            told = by_groups(tabled)
            parting = not_by_groups(tabled)
            self.assertEqual(parting, parting_by_words(tabled))
            self.assertNotEqual(told is None, parting is None)
            both[told is None] += 1
            if told is not None:
                self.check(tabled, told)
            else:
                self.assertEqual([type(part) for part in parting], [str, tuple, tuple])
        self.assertGreater(min(both), 50)

    def check(self, tabled, told):
        names = names_of(tabled)
        self.assertIs(type(told), Grouped)
        self.assertEqual(told.parts()[0], names)
        for row in label_rows(len(names))[::1 if len(names) < 5 else 7]:
            labels = dict(zip(names, row))
            for name in names:
                self.assertEqual(group_label(told, labels, name), table_label(tabled, labels, name))

    def test_edges(self):
        for tabled in (Tabled([]), Tabled([("a", (), [])]), Tabled([("a", (), [()])]), Tabled([("a", ("a",), [])])):
            self.assertIsNone(not_by_groups(tabled=tabled))
            self.check(tabled, by_groups(tabled=tabled))

    def test_all_that_groups_can_do_on_three(self):
        """Each rule of some groups and needs has a table that groups can do, and no others have."""
        names = ["a", "b", "c"]
        done = set()
        for groups in subsets(subsets(names)):
            for needs in subsets(names):
                rows = []
                for row in truth_rows(3):
                    truths = dict(zip(names, row))
                    if all(truths[name] for name in needs) and not any(
                            all(truths[name] for name in group) for group in groups):
                        rows.append(row)
                done.add(tuple(rows))
        for rows in itertools.chain(subsets(truth_rows(3))):
            tabled = Tabled([("s", names, rows)] + [(name, (), []) for name in names])
            self.assertEqual(by_groups(tabled) is not None, tuple(rows) in done)
