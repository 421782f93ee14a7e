"""Points 60 and 61: ranks by tables, and doubts."""

import itertools

from objections.errors import NoStatement
from objections.tabledoubts import is_tabled_doubt, tabled_doubt, tabled_rank
from objections.tables import Tabled, tabled_labellings
from tests.helper import Case, any_objects, ascending, drawn_tables, round_tables, subsets, table_label, truth_rows

NOT = [(False,)]
SAME = [(True,)]
CHAIN = Tabled([("a", (), [()]), ("b", ("a",), NOT), ("c", ("b",), NOT), ("d", ("d",), NOT), ("e", ("d", "c"), [
    (False, False), (True, False)])])


def names_of(tabled):
    return [name for name, _, _ in tabled.tables()]


def ranks_by_words(tabled):
    """From nothing all is gone through again and again, each time by the labels that all had ahead."""
    names = names_of(tabled)
    labels = {name: "undecided" for name in names}
    ranks = {name: None for name in names}
    for number in range(len(names) + 1):
        labels = {name: table_label(tabled, labels, name) for name in names}
        for name in names:
            if ranks[name] is None and labels[name] != "undecided":
                ranks[name] = (number, labels[name])
    return ranks


def is_doubt_by_words(tabled, doubt):
    least = tabled_labellings(tabled, "least")[0]
    tables = {name: (parents, rows) for name, parents, rows in tabled.tables()}
    for name, (row, other) in doubt.items():
        parents, rows = tables[name]
        if tuple(row) not in rows or tuple(other) in rows:
            return False
        for place, parent in enumerate(parents):
            if parent not in doubt:
                if least[parent] == "undecided" or not row[place] == other[place] == (least[parent] == "in"):
                    return False
    return len(doubt) > 0


def many_tabled():
    found = drawn_tables(120, 4, 3, 130)
    for one, other in itertools.product(subsets(truth_rows(2)), repeat=2):
        found.append(Tabled([("a", ("a", "b"), one), ("b", ("b", "a"), other)]))
    return found[::2]


class TestRanks(Case):
    def test_plain_ones(self):
        self.assertEqual([tabled_rank(CHAIN, name) for name in "abcde"], [
            (0, "in"), (1, "out"), (2, "in"), None, (3, "out")])
        self.assertIsNone(tabled_rank(statement="d", tabled=CHAIN))

    def test_all_truths_and_none_are_decided_at_once(self):
        tabled = Tabled([("a", ("a",), NOT + SAME), ("b", ("b", "c"), []), ("c", ("c",), SAME)])
        self.assertEqual([tabled_rank(tabled, name) for name in "abc"], [(0, "in"), (0, "out"), None])

    def test_by_words(self):
        for tabled in many_tabled():
            ranks = ranks_by_words(tabled)
            self.assertEqual({name: tabled_rank(tabled, name) for name in names_of(tabled)}, ranks)

    def test_no_statement(self):
        for call in (tabled_rank, tabled_doubt):
            for thing in any_objects() + ["f", ["a"]]:
                if thing != "a":
                    self.refuses(NoStatement, {"thing": thing}, call, CHAIN, thing)


class TestDoubts(Case):
    def test_just_one(self):
        for tabled in many_tabled() + [CHAIN]:
            for name in names_of(tabled):
                told = tabled_doubt(tabled, name)
                self.assertNotEqual(told is None, tabled_rank(tabled, name) is None)
                if told is not None:
                    self.assertIn(name, told)
                    self.assertTrue(ascending(told))
                    self.assertTrue(is_doubt_by_words(tabled, told))
                    self.assertIs(is_tabled_doubt(tabled, told), True)
                    self.assertEqual({type(pair) for pair in told.values()}, {tuple})
                    self.assertEqual({type(row) for pair in told.values() for row in pair}, {tuple})

    def test_members_of_any_doubt_have_no_rank(self):
        for one, other in itertools.product(subsets(truth_rows(2)), repeat=2):
            tabled = Tabled([("a", ("a", "b"), one), ("b", ("a", "b"), other)])
            pairs = list(itertools.product(truth_rows(2), repeat=2))[::3]
            for keys in (["a"], ["b"], ["a", "b"]):
                for rows in itertools.product(pairs, repeat=len(keys)):
                    doubt = dict(zip(keys, rows))
                    right = is_doubt_by_words(tabled, doubt)
                    self.assertIs(is_tabled_doubt(tabled, doubt), right)
                    if right:
                        self.assertTrue(all(tabled_rank(tabled, name) is None for name in keys))

    def test_none(self):
        self.assertIsNone(tabled_doubt(Tabled([("a", (), [()])]), "a"))
        self.assertIsNone(tabled_doubt(statement="a", tabled=CHAIN))
        self.assertEqual(tabled_doubt(CHAIN, "d"), {"d": ((False,), (True,))})

    def test_the_same_for_equal_ones_and_new(self):
        for tabled in drawn_tables(40, 4, 3, 131):
            turned = Tabled([(name, parents[::-1], [row[::-1] for row in rows[::-1]])
                             for name, parents, rows in tabled.tables()[::-1]])
            for name in names_of(tabled):
                told = tabled_doubt(tabled, name)
                self.assertEqual(tabled_doubt(turned, name), told)
                if told:
                    told.clear()
                    self.assertTrue(tabled_doubt(tabled, name))

    def test_parents_that_are_no_keys(self):
        tabled = Tabled([("a", (), [()]), ("b", ("a", "c"), [(True, False), (False, True)]), ("c", ("b",), SAME)])
        self.assertIs(is_tabled_doubt(tabled, {
            "b": ((True, False), (True, True)), "c": ((True,), (False,))}), True)
        for odd in (
            {"b": ((True, False), (False, False)), "c": ((True,), (False,))}, {"b": ((True, False), (True, True))},
            {"b": ((False, True), (False, False)), "c": ((True,), (False,))}, {"c": ((True,), (False,))},
            {"b": ((True, False), (True, True)), "c": ((False,), (True,))}, {"a": ((), ())},
        ):
            self.assertIs(is_tabled_doubt(tabled, odd), False)

    def test_any_objects(self):
        good = {"d": ((False,), (True,))}
        self.assertIs(is_tabled_doubt(thing=good, tabled=CHAIN), True)
        self.assertIs(is_tabled_doubt(CHAIN, {"d": [[False], [True]]}), True)
        odd = any_objects() + [list(good), list(good.items())]
        odd += [good | {"f": ((), ())}, good | {5: 5}, good | {None: None}]
        odd += [{"d": thing} for thing in any_objects()]
        odd += [{"d": ((False,), thing)} for thing in any_objects() if thing != [True]]
        odd += [{"d": (thing, (True,))} for thing in any_objects()]
        odd += [{"d": ((False,), (True,), ())}, {"d": ((False,),)}, {"d": ((0,), (1,))}, {"d": ((False,), (1,))},
                {"d": ((False, False), (True,))}, {"d": ((True,), (False,))}, {"d": ((False,), (False,))},
                {("d",): ((False,), (True,))}]
        for thing in odd:
            self.assertIs(is_tabled_doubt(CHAIN, thing), False)

    def test_at_the_limit(self):
        tabled = round_tables([row for row in truth_rows(4) if sum(row) in (1, 2)])
        for name in names_of(tabled):
            self.assertTrue(is_doubt_by_words(tabled, tabled_doubt(tabled, name)))
