"""Points 51, 52, 53 and 61: groups that object together, and needs."""

import itertools

from objections.debates import Debate
from objections.errors import BadGroups, BadNeeds, BadStatements, BadWay
from objections.groups import Grouped, grouped_labellings, grouped_of, is_grouped_labelling, made_plain
from objections.parts import labels_by_parts
from tests.helper import (
    LABELS, Case, any_objects, ascending, drawn_groups, group_label, has_all, label_rows, labellings_by_words,
    not_lists, not_words, plain_labels, plain_of_way, rule_labellings, small_debates, subsets,
)

WAYS = ["whole", "least", "greatest", "settled"]
RING = Grouped(["a", "b"], [], [("a", "b"), ("b", "a")])


def all_grouped(names):
    """All ways to put one or two groups and a need to some names, and some more."""
    objections = [(tuple(group), other) for group in subsets(names) for other in names]
    needs = list(itertools.product(names, repeat=2))
    return [
        Grouped(names, groups, list(some)) for groups in subsets(objections) if len(groups) < 4
        for some in subsets(needs) if len(some) < 3
    ]


def many_grouped():
    return all_grouped(["a"]) + all_grouped(["a", "b"])[::5] + drawn_groups(120, 4, 5, 3, 90)


def labels_for(grouped):
    """The rule by its words, as a function from labels and a statement."""
    return lambda labels, name: group_label(grouped, labels, name)


class TestGrouped(Case):
    def test_parts(self):
        grouped = Grouped(["c", "a", "b"], [(("c", "a"), "b"), ((), "c"), (("b",), "b")], [("c", "a"), ("a", "a")])
        parts = grouped.parts()
        self.assertEqual(parts, (
            ["a", "b", "c"], [((), "c"), (("a", "c"), "b"), (("b",), "b")], [("a", "a"), ("c", "a")],
        ))
        self.assertIs(type(parts), tuple)
        self.assertEqual([type(part) for part in parts], [list] * 3)
        self.assertEqual({type(pair) for pair in parts[1] + parts[2]}, {tuple})
        self.assertEqual({type(group) for group, _ in parts[1]}, {tuple})

    def test_by_names_and_lists_for_tuples(self):
        one = Grouped(needs=(["a", "b"],), objections=([["b", "a"], "a"],), statements=("b", "a"))
        self.assertTrue(one == Grouped(["a", "b"], [(("a", "b"), "a")], [("a", "b")]))
        self.assertFalse(one != Grouped(["a", "b"], [(("a", "b"), "a")], [("a", "b")]))

    def test_equal_by_parts_and_to_nothing_else(self):
        one = Grouped(["a", "b"], [(("a", "b"), "a")], [("a", "b")])
        for other in (
            Grouped(["a", "b", "c"], [(("a", "b"), "a")], [("a", "b")]), Grouped(["a", "b"], [], [("a", "b")]),
            Grouped(["a", "b"], [(("a", "b"), "b")], [("a", "b")]), Grouped(["a", "b"], [(("a", "b"), "a")], []),
            Grouped(["a", "b"], [(("a",), "a")], [("a", "b")]),
        ):
            self.assertFalse(one == other)
            self.assertTrue(one != other)
        for thing in any_objects() + [one.parts(), Debate(["a", "b"], [])]:
            self.assertFalse(one == thing)
            self.assertFalse(thing == one)
        self.assertFalse(Grouped([], [], []) == Debate([], []))
        self.assertTrue(Grouped([], [], []) == Grouped((), (), ()))

    def test_copied_and_new(self):
        statements, group, need = ["b", "a"], ["b", "a"], ["b", "a"]
        objections, needs = [[group, "a"]], [need]
        grouped = Grouped(statements, objections, needs)
        self.assertEqual((statements, group, need), (["b", "a"],) * 3)
        self.assertEqual((objections, needs), ([[["b", "a"], "a"]], [["b", "a"]]))
        for row in (statements, group, need, objections[0], objections, needs) + grouped.parts():
            row.clear()
        self.assertEqual(grouped.parts(), (["a", "b"], [(("a", "b"), "a")], [("b", "a")]))

    def test_errors(self):
        names = ["a", "b", "c"]
        self.refuses_no_lists(BadStatements, lambda thing: Grouped(thing, 5, 5))
        self.refuses_no_lists(BadGroups, lambda thing: Grouped(names, thing, 5))
        self.refuses_no_lists(BadNeeds, lambda thing: Grouped(names, [], thing))
        for thing in any_objects() + ["a", "A"]:
            if thing not in ("ab", "zz9"):
                self.refuses(BadStatements, {"index": 2}, Grouped, ["b", "a", thing, thing], 5, 5)
        good = [(("a", "b"), "c"), ((), "a")]
        odd = any_objects() + [
            (("b", "a"), "c"), ((), "a"), [[], "a"], (("a", "b"), "x"), (("a", "x"), "b"), (("a", "a"), "b"),
            ("a", "b"), ("ab", "c"), (("a",), "b", "c"), (("a",),), (("a",), None), ((None,), "a"), (["a"], ["b"]),
            (("a", True), "b"), ({"a": 1}, "b"), (None, "a"), ((("a",),), "b"),
        ]
        for thing in odd:
            self.refuses(BadGroups, {"index": 2}, Grouped, names, good + [thing, None], 5)
        for thing in any_objects() + [("a", "b"), ["a", "b"], ("a", "x"), ("x", "a"), ("a",), ("a", "b", "c"), "ab"]:
            if thing != ["a", "a"]:
                self.refuses(BadNeeds, {"index": 1}, Grouped, names, good, [("a", "b"), thing, thing])
        self.assertEqual(len(Grouped(names, good + [(("a", "b"), "a"), (("a",), "c")], []).parts()[1]), 4)

    def test_grouped_of(self):
        for debate in small_debates()[::4]:
            told = grouped_of(debate)
            self.assertEqual(told.parts(), (
                debate.statements(), [((one,), other) for one, other in debate.objections()], []))
            self.assertEqual(grouped_labellings(told, "whole"), sorted(
                labellings_by_words(debate), key=lambda labels: list(labels.values())))
        self.assertEqual(grouped_of(debate=Debate([], [])), Grouped([], [], []))


class TestLabellings(Case):
    def test_example(self):
        self.assertEqual(grouped_labellings(RING, "whole"), [
            {"a": label, "b": label} for label in LABELS])
        self.assertEqual(grouped_labellings(way="least", grouped=RING), [{"a": "undecided", "b": "undecided"}])

    def test_edges(self):
        empty = Grouped(["a", "b"], [((), "a")], [("b", "a")])
        self.assertEqual(grouped_labellings(empty, "whole"), [{"a": "out", "b": "out"}])
        itself = Grouped(["a"], [], [("a", "a")])
        self.assertEqual(grouped_labellings(itself, "whole"), [{"a": label} for label in LABELS])
        self.assertEqual(grouped_labellings(itself, "greatest"), [{"a": "in"}, {"a": "out"}])
        both = Grouped(["a", "b"], [(("a", "b"), "a")], [])
        self.assertEqual(grouped_labellings(both, "whole"), [{"a": "undecided", "b": "in"}])
        self.assertEqual(grouped_labellings(both, "settled"), [])
        for way in WAYS:
            self.assertEqual(grouped_labellings(Grouped([], [], []), way), [{}])

    def test_by_words(self):
        for grouped in many_grouped():
            for way in WAYS:
                told = grouped_labellings(grouped, way)
                self.assertEqual(told, rule_labellings(grouped.parts()[0], labels_for(grouped), way))
                self.assertTrue(all(ascending(labels) for labels in told))
                self.assertIs(type(told), list)

    def test_what_the_least_one_has_all_have(self):
        for grouped in many_grouped():
            least = grouped_labellings(grouped, "least")[0]
            self.assertTrue(all(has_all(labels, least) for labels in grouped_labellings(grouped, "whole")))
            self.assertTrue(is_grouped_labelling(grouped, least))

    def test_at_the_limit(self):
        names = list("abcdefg")
        free = Grouped(names, [], [(name, name) for name in names])
        self.assertEqual(len(grouped_labellings(free, "whole")), 3 ** 7)
        self.assertEqual(len(grouped_labellings(free, "greatest")), 2 ** 7)
        groups = [(tuple(names[(at + turn) % 7] for turn in range(4)), names[(at + 5) % 7]) for at in range(7)]
        groups += [(("a", "b", "c", "d"), "a"), (("d", "e", "f", "g"), "a"), (("a", "c", "e", "g"), "b")]
        full = Grouped(names, groups, [(one, other) for one, other in zip(names, "bcdefga")] + [("a", "a")])
        for way in WAYS:
            self.assertEqual(grouped_labellings(full, way), rule_labellings(names, labels_for(full), way))

    def test_new_each_time(self):
        told = grouped_labellings(RING, "whole")
        told[0].clear()
        told.clear()
        self.assertEqual(len(grouped_labellings(RING, "whole")[0]), 2)

    def test_errors(self):
        for thing in not_words(WAYS) + ["calm", "held"]:
            self.refuses(BadWay, {"thing": thing}, grouped_labellings, RING, thing)


class TestIsLabelling(Case):
    def test_by_words(self):
        for grouped in many_grouped()[::3]:
            names = grouped.parts()[0]
            right = rule_labellings(names, labels_for(grouped), "whole")
            for row in label_rows(len(names)):
                labels = dict(zip(names[::-1], row))
                self.assertIs(is_grouped_labelling(grouped, labels), labels in right)

    def test_any_objects(self):
        good = {"a": "in", "b": "in"}
        self.assertIs(is_grouped_labelling(thing=good, grouped=RING), True)
        for thing in any_objects() + [
            {"a": "in"}, good | {"c": "in"}, {"a": "in", "c": "in"}, {"a": True, "b": True}, {"a": ["in"], "b": "in"},
            list(good), list(good.items()), {"a": "in", ("b",): "in"}, {"a": "IN", "b": "IN"}, {"a": None, "b": None},
            {"a": "in", "b": RING},
        ]:
            self.assertIs(is_grouped_labelling(RING, thing), False)
        self.assertIs(is_grouped_labelling(Grouped([], [], []), {}), True)
        for thing in not_lists() + [[], (), [{}]]:
            if thing != {}:
                self.assertIs(is_grouped_labelling(Grouped([], [], []), thing), False)


class TestMadePlain(Case):
    def check(self, grouped):
        told = made_plain(grouped)
        self.assertIs(type(told), tuple)
        debate, words = told
        names, objections, needs = grouped.parts()
        self.assertIs(type(debate), Debate)
        self.assertEqual(sorted(names + list(words)), debate.statements())
        self.assertTrue(ascending(words))
        self.assertEqual(len(set(words.values())), len(words))
        for word in words.values():
            self.assertIn(word, [("not", name) for name in names] + [("group", group) for group, _ in objections])
        return debate, words

    def test_labellings_are_one_to_one(self):
        for grouped in many_grouped():
            debate, words = self.check(grouped)
            names = grouped.parts()[0]
            told = plain_labels(debate, words, names)
            cut = [{name: labels[name] for name in names} for labels in told]
            self.assertEqual(cut, grouped_labellings(grouped, "whole"))

    def test_so_least_greatest_and_settled_ones_are_such(self):
        for grouped in many_grouped()[::2]:
            debate, words = self.check(grouped)
            names = grouped.parts()[0]
            found = plain_labels(debate, words, names)
            for way in WAYS[1:]:
                told = [{name: labels[name] for name in names} for labels in plain_of_way(found, way)]
                self.assertEqual(told, grouped_labellings(grouped, way))

    def test_there_are_no_other_labellings(self):
        for grouped in many_grouped()[::9] + drawn_groups(30, 6, 8, 5, 91):
            debate, words = self.check(grouped)
            names = grouped.parts()[0]
            right = sorted(list(labels.items()) for labels in plain_labels(debate, words, names))
            told = [sorted(labels.items(), key=lambda item: (names + list(words)).index(item[0]))
                    for labels in labels_by_parts(debate)]
            self.assertEqual(sorted(told), right)

    def test_names_that_further_ones_might_take(self):
        names = [f"x{at}" for at in range(7)]
        grouped = Grouped(names, [(("x0", "x1"), "x2"), (("x2",), "x0")], [("x3", "x4"), ("x4", "x4")])
        debate, words = self.check(grouped)
        self.assertEqual(debate.statements(), sorted(names + list(words)))
        cut = [{name: labels[name] for name in names} for labels in plain_labels(debate, words, names)]
        self.assertEqual(cut, grouped_labellings(grouped, "whole"))

    def test_nothing(self):
        self.assertEqual(made_plain(Grouped([], [], [])), (Debate([], []), {}))
        debate, words = made_plain(grouped=Grouped(["a"], [((), "a")], []))
        self.assertEqual([word for word in words.values() if word[0] == "group"], [("group", ())])
        self.assertEqual([labels["a"] for labels in plain_labels(debate, words, ["a"])], ["out"])

    def test_the_same_for_equal_ones(self):
        for grouped in drawn_groups(20, 5, 6, 4, 92):
            statements, objections, needs = grouped.parts()
            other = Grouped(statements[::-1], [(group[::-1], one) for group, one in objections[::-1]], needs[::-1])
            self.assertEqual(made_plain(other), made_plain(grouped))
            made_plain(grouped)[1].clear()
            self.assertEqual(made_plain(other), made_plain(grouped))
