"""Points 91, 92, 93 and 96: lots that are held by a budget."""

from objections.budgets import budget_table, cheapest_lot, greatest_by, least_budget, most_for
from objections.debates import Debate
from objections.errors import BadNumber, BadWeights, NoStatement
from tests.helper import Case, any_objects, lots_by_words, met, not_numbers, not_statements
from tests.weighing import (
    RING, RING_WEIGHTS, eight_statements, greatest_by_words, held_weights, odd_weights, weighed_debates,
)


class TestGreatest(Case):
    def test_example(self):
        self.assertEqual(budget_table(RING, RING_WEIGHTS), [
            (0, [[]]), (2, [["a", "b"]]), (3, [["a", "b"], ["b", "c"]]),
            (4, [["a", "b"], ["a", "c"], ["b", "c"]]), (9, [["a", "b", "c"]]),
        ])
        self.assertEqual(least_budget(RING, RING_WEIGHTS, "c"), 3)
        self.assertEqual(cheapest_lot(RING, RING_WEIGHTS, "c"), ["b", "c"])
        self.assertEqual(greatest_by(RING, RING_WEIGHTS, 3), [["a", "b"], ["b", "c"]])

    def test_by_words(self):
        for debate, weights in weighed_debates():
            prices = held_weights(debate, weights)
            total = sum(weights.values())
            budgets = sorted(set(list(prices.values()) + [0, 1, 2, total, total + 1, 999999999]))
            table = []
            for budget in budgets:
                right = greatest_by_words(prices, budget)
                self.assertEqual(greatest_by(debate, weights, budget), right)
                if not table or table[-1][1] != right:
                    table.append((budget, right))
            told = budget_table(weights=weights, debate=debate)
            self.assertEqual(told, table)
            self.assertEqual(told[-1], (told[-1][0], [debate.statements()]))
            self.assertEqual({type(row) for row in told}, {tuple})

    def test_tables_budget_by_budget(self):
        """A budget stands in the table just if it is 0 or other lots are greatest by it than by one less."""
        for debate, weights in weighed_debates()[::5]:
            told = dict(budget_table(debate, weights))
            total = min(sum(weights.values()), 60)
            rows = [greatest_by(debate, weights, budget) for budget in range(total + 2)]
            for budget, row in enumerate(rows):
                changes = budget == 0 or row != rows[budget - 1]
                self.assertEqual(told.get(budget), row if changes else None)

    def test_facts(self):
        for debate, weights in weighed_debates():
            self.assertEqual(greatest_by(debate, weights, 0), lots_by_words(debate, "greatest"))
            total = sum(weights.values())
            self.assertEqual(greatest_by(debate, weights, total), [debate.statements()])
            held = []
            for budget in (0, 1, 2, 5, total):
                more = greatest_by(debate, weights, budget)
                self.assertTrue(all(any(set(lot) <= set(other) for other in more) for lot in held))
                held = more

    def test_weights_of_one_count_objections(self):
        weights = {pair: 1 for pair in RING.objections()}
        self.assertEqual(budget_table(RING, weights), [
            (0, [[]]), (1, [["a", "b"], ["a", "c"], ["b", "c"]]), (3, [["a", "b", "c"]])])

    def test_edges(self):
        self.assertEqual(budget_table(Debate([], []), {}), [(0, [[]])])
        self.assertEqual(greatest_by(budget=0, weights={}, debate=Debate(["b", "a"], [])), [["a", "b"]])
        self.assertEqual(budget_table(Debate(["a"], [("a", "a")]), {("a", "a"): 100}), [(0, [[]]), (100, [["a"]])])

    def test_at_the_limit(self):
        debate, weights = eight_statements()
        table = budget_table(debate, weights)
        self.assertEqual(table[0], (0, lots_by_words(debate, "greatest")))
        self.assertEqual(table[-1], (sum(weights.values()), [debate.statements()]))
        for budget, lots in table[::9]:
            self.assertEqual(greatest_by(debate, weights, budget), lots)
            if budget:
                self.assertNotEqual(greatest_by(debate, weights, budget - 1), lots)

    def test_new_each_time(self):
        budget_table(RING, RING_WEIGHTS)[1][1][0].clear()
        greatest_by(RING, RING_WEIGHTS, 2)[0].clear()
        cheapest_lot(RING, RING_WEIGHTS, "c").clear()
        self.assertEqual(budget_table(RING, RING_WEIGHTS)[1], (2, [["a", "b"]]))
        self.assertEqual(greatest_by(RING, RING_WEIGHTS, 2), [["a", "b"]])
        self.assertEqual(cheapest_lot(RING, RING_WEIGHTS, "c"), ["b", "c"])


class TestStatements(Case):
    def test_by_words(self):
        for debate, weights in weighed_debates():
            prices = held_weights(debate, weights)
            for name in debate.statements():
                mine = {lot: price for lot, price in prices.items() if name in lot}
                least = min(mine.values())
                self.assertEqual(least_budget(debate, weights, name), least)
                first = min(list(lot) for lot, price in mine.items() if price == least)
                self.assertEqual(cheapest_lot(debate, weights, name), first)
                for budget in sorted({0, 1, 2, least, max(least - 1, 0), least + 1, sum(weights.values())}):
                    sizes = [len(lot) for lot, price in mine.items() if price <= budget]
                    self.assertEqual(most_for(debate, weights, name, budget), max(sizes, default=None))

    def test_facts(self):
        for debate, weights in weighed_debates():
            held = lots_by_words(debate, "held")
            for name in debate.statements():
                least = least_budget(statement=name, weights=weights, debate=debate)
                self.assertLessEqual(least, sum(weights[one, name] for one in met(debate, name)))
                self.assertEqual(least == 0, any(name in lot for lot in held))

    def test_edges(self):
        alone = Debate(["a", "b"], [("a", "a")])
        self.assertEqual(least_budget(alone, {("a", "a"): 7}, "a"), 7)
        self.assertEqual(cheapest_lot(alone, {("a", "a"): 7}, "a"), ["a"])
        self.assertEqual(most_for(alone, {("a", "a"): 7}, "b", 0), 1)
        self.assertEqual(most_for(alone, {("a", "a"): 7}, "a", 7), 2)
        self.assertIsNone(most_for(budget=6, statement="a", weights={("a", "a"): 7}, debate=alone))
        self.assertEqual(cheapest_lot(statement="b", weights={("a", "a"): 7}, debate=alone), ["b"])

    def test_at_the_limit(self):
        debate, weights = eight_statements()
        for name in debate.statements():
            least = least_budget(debate, weights, name)
            lot = cheapest_lot(debate, weights, name)
            self.assertIn(name, lot)
            self.assertGreaterEqual(most_for(debate, weights, name, least), len(lot))
            self.assertIsNone(most_for(debate, weights, name, least - 1) if least else None)
            self.assertEqual(most_for(debate, weights, name, sum(weights.values())), 8)


class TestErrors(Case):
    def test_bad_weights(self):
        calls = [
            lambda thing: greatest_by(RING, thing, None), lambda thing: budget_table(RING, thing),
            lambda thing: least_budget(RING, thing, None), lambda thing: cheapest_lot(RING, thing, None),
            lambda thing: most_for(RING, thing, None, None),
        ]
        for call in calls:
            for thing in any_objects() + odd_weights(RING, RING_WEIGHTS):
                self.refuses(BadWeights, {"thing": thing}, call, thing)

    def test_no_statement(self):
        for thing in not_statements(RING):
            self.refuses(NoStatement, {"thing": thing}, least_budget, RING, RING_WEIGHTS, thing)
            self.refuses(NoStatement, {"thing": thing}, cheapest_lot, RING, RING_WEIGHTS, thing)
            self.refuses(NoStatement, {"thing": thing}, most_for, RING, RING_WEIGHTS, thing, None)

    def test_bad_number(self):
        for thing in not_numbers():
            self.refuses(BadNumber, {"thing": thing}, greatest_by, RING, RING_WEIGHTS, thing)
            self.refuses(BadNumber, {"thing": thing}, most_for, RING, RING_WEIGHTS, "a", thing)

    def test_nothing_is_changed(self):
        weights = dict(RING_WEIGHTS)
        budget_table(RING, weights)
        self.assertEqual(list(weights.items()), list(RING_WEIGHTS.items()))
