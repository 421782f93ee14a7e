"""Points 73 and 78: who stands in which fillings."""

import itertools

from objections.debates import Debate
from objections.errors import BadHow, BadWay, NoStatement
from objections.unsure import Unsure
from objections.unsurestanding import first_falling, first_standing, label_table
from tests.helper import (
    HOWS, WAYS, Case, any_objects, ascending, drawn_debates, drawn_unsure, fillings_by_words, least_by_words, not_words,
    stands_by_words,
)

D = Debate(["a", "b", "c"], [("b", "a"), ("c", "b")])
U = Unsure(D, ["c"], [("b", "a")])


def many_unsure():
    return drawn_unsure(30, 3, 4, 200) + drawn_unsure(12, 4, 4, 201) + [Unsure(Debate([], []), [], [])]


class TestStanding(Case):
    def test_example(self):
        self.assertEqual(first_falling(U, "least", "a", "some"), Debate(["a", "b"], [("b", "a")]))
        self.assertEqual(first_standing(how="some", statement="a", way="least", unsure=U), Debate(["a", "b"], []))
        self.assertEqual(first_falling(how="some", statement="c", way="least", unsure=U), Debate(["a", "b"], []))
        self.assertEqual(first_standing(U, "least", "c", "some"), D)
        self.assertIsNone(first_standing(U, "least", "c", "none"))
        self.assertIsNone(first_falling(U, "calm", "a", "some"))

    def test_by_words(self):
        for turn, unsure in enumerate(many_unsure()):
            found = fillings_by_words(unsure)
            for way, how in list(itertools.product(WAYS, HOWS))[turn % 3::3]:
                for name in unsure.full().statements():
                    truths = [name in one.statements() and stands_by_words(one, way, name, how) for one in found]
                    right = [one for one, truth in zip(found, truths) if truth]
                    wrong = [one for one, truth in zip(found, truths) if not truth]
                    self.assertEqual(first_standing(unsure, way, name, how), right[0] if right else None)
                    self.assertEqual(first_falling(unsure, way, name, how), wrong[0] if wrong else None)

    def test_without_settled_lots_all_stand(self):
        unsure = Unsure(Debate(["a", "b"], [("a", "a")]), ["b"], [])
        for how, told in (("all", Debate(["a", "b"], [("a", "a")])), ("some", None)):
            self.assertEqual(first_standing(unsure, "settled", "b", how), told)

    def test_errors(self):
        for call in (first_standing, first_falling):
            for thing in not_words(WAYS) + ["tops"]:
                self.refuses(BadWay, {"thing": thing}, call, U, thing, 5, 5)
            for thing in any_objects() + ["d", ["a"], ("b", "a")]:
                if thing != "a":
                    self.refuses(NoStatement, {"thing": thing}, call, U, "whole", thing, 5)
            for thing in not_words(HOWS):
                self.refuses(BadHow, {"thing": thing}, call, U, "whole", "c", thing)


class TestLabelTable(Case):
    def test_example(self):
        self.assertEqual(label_table(U), {"a": ["in", "out"], "b": ["in", "out"], "c": ["gone", "in"]})
        self.assertEqual(label_table(unsure=Unsure(Debate([], []), [], [])), {})

    def test_by_words(self):
        words = set()
        for unsure in many_unsure():
            rows = [least_by_words(one) for one in fillings_by_words(unsure)]
            told = label_table(unsure)
            self.assertEqual(told, {
                name: sorted({row.get(name, "gone") for row in rows}) for name in unsure.full().statements()})
            self.assertTrue(ascending(told))
            self.assertEqual({type(row) for row in told.values()} | {list}, {list})
            words.update(word for row in told.values() for word in row)
        self.assertEqual(words, {"gone", "in", "out", "undecided"})

    def test_at_the_limit_and_new(self):
        debate = drawn_debates(4, 8, 202)[3]
        unsure = Unsure(debate, debate.statements()[:4], debate.objections()[:3])
        told = label_table(unsure)
        self.assertEqual([name for name in told if "gone" in told[name]], unsure.maybe())
        told[debate.statements()[0]].clear()
        told.clear()
        self.assertIn("gone", label_table(unsure)[debate.statements()[0]])
