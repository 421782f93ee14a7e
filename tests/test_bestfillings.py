"""Points 72, 73 and 78: fillings that are best and worst for a lot, and the first ones."""

from objections.bestfillings import best_filling, first_against, first_for, worst_filling
from objections.debates import Debate
from objections.errors import BadLot, BadWay
from objections.unsure import Unsure, fillings, is_filling
from tests.helper import (
    WAYS, Case, any_objects, drawn_debates, drawn_unsure, fillings_by_words, lots_by_words, not_words, subsets,
)

D = Debate(["a", "b", "c"], [("b", "a"), ("c", "b")])
U = Unsure(D, ["c"], [("b", "a")])


def many_unsure():
    return drawn_unsure(30, 3, 4, 190) + drawn_unsure(12, 4, 4, 191) + [Unsure(Debate([], []), [], [])]


class TestBest(Case):
    def test_example(self):
        self.assertEqual(best_filling(U, ["a"]), Debate(["a", "b"], []))
        self.assertEqual(worst_filling(U, ["a"]), D)
        self.assertEqual(best_filling(lot=("c", "b"), unsure=U), Debate(["a", "b", "c"], [("b", "a"), ("c", "b")]))
        self.assertEqual(worst_filling(lot=["b"], unsure=U), Debate(["a", "b", "c"], [("c", "b")]))

    def test_by_words(self):
        for unsure in many_unsure():
            full, maybe, perhaps = unsure.full(), unsure.maybe(), unsure.perhaps()
            for lot in subsets(full.statements()):
                names = [name for name in full.statements() if name not in maybe or name in lot]
                best = Debate(names, [
                    (one, other) for one, other in full.objections() if one in names and other in names
                    and ((one, other) not in perhaps or one in lot and other not in lot)
                ])
                worst = Debate(full.statements(), [
                    (one, other) for one, other in full.objections() if (one, other) not in perhaps or other in lot
                ])
                self.assertEqual(best_filling(unsure, lot[::-1]), best)
                self.assertEqual(worst_filling(unsure, tuple(lot[::-1])), worst)
                self.assertTrue(is_filling(unsure, best) and is_filling(unsure, worst))

    def test_it_holds(self):
        for unsure in many_unsure():
            for lot in subsets(unsure.full().statements()):
                rows = [one for one in fillings_by_words(unsure) if set(lot) <= set(one.statements())]
                for way in ("calm", "held", "settled"):
                    found = [lot in lots_by_words(one, way) for one in rows]
                    self.assertEqual(any(found), lot in lots_by_words(best_filling(unsure, lot), way))
                    if not set(lot) & set(unsure.maybe()):
                        self.assertEqual(all(found), lot in lots_by_words(worst_filling(unsure, lot), way))

    def test_errors(self):
        calls = [lambda thing: best_filling(U, thing), lambda thing: worst_filling(U, thing),
                 lambda thing: first_for(U, "held", thing), lambda thing: first_against(U, "held", thing)]
        for call in calls:
            self.refuses_no_lists(BadLot, call)
            for thing in any_objects() + ["b", "d", ["c"]]:
                if thing != "a":
                    self.refuses(BadLot, {"index": 1}, call, ["b", thing, thing])


class TestFirst(Case):
    def test_example(self):
        self.assertEqual(first_for(U, "held", ["a"]), Debate(["a", "b"], []))
        self.assertEqual(first_against(lot=["a"], way="held", unsure=U), Debate(["a", "b"], [("b", "a")]))
        self.assertEqual(first_for(lot=("c", "a"), way="settled", unsure=U), D)
        self.assertEqual(first_against(U, "settled", ["a", "c"]), Debate(["a", "b"], []))
        self.assertIsNone(first_for(U, "calm", ["b", "c"]))
        self.assertIsNone(first_against(U, "calm", ["a"]))

    def test_by_words(self):
        for unsure in many_unsure():
            found = fillings_by_words(unsure)
            for way in WAYS:
                lots = [lots_by_words(one, way) for one in found]
                for lot in subsets(unsure.full().statements()):
                    right = [one for one, rows in zip(found, lots) if lot in rows]
                    wrong = [one for one, rows in zip(found, lots) if lot not in rows]
                    self.assertEqual(first_for(unsure, way, lot[::-1]), right[0] if right else None)
                    self.assertEqual(first_against(unsure, way, lot), wrong[0] if wrong else None)

    def test_at_the_limit(self):
        debate = drawn_debates(3, 8, 192)[2]
        unsure = Unsure(debate, debate.statements()[:3], debate.objections()[:4])
        for way in WAYS:
            for lot in subsets(debate.statements())[::40]:
                told = [first_for(unsure, way, lot), first_against(unsure, way, lot)]
                self.assertIn(fillings(unsure)[0], told)

    def test_errors(self):
        for call in (first_for, first_against):
            for thing in not_words(WAYS) + ["tops"]:
                self.refuses(BadWay, {"thing": thing}, call, U, thing, 5)
