"""Points 98, 99 and 104: winning lists of judges, and rings."""

import itertools

from objections.benches import merged_by
from objections.debates import Debate
from objections.errors import BadJudges, BadMany, BadRule, NoTruth
from objections.winning import fewest_apart, is_ringless, ring_bench, vetoers, winning_lots
from tests.benchwords import (
    all_rules, by_quota, drawn_rule_dicts, has_ring, ringless_debates, rule_from, rule_merged, winning_by_words,
)
from tests.helper import Case, any_objects, drawn_debates, not_functions, not_numbers, rings_by_words, small_debates


def apart_by_words(lots, judges):
    """The first of the shortest lists of winning lots without a common judge, by going through all lists."""
    for many in range(1, len(lots) + 1):
        for row in itertools.combinations(lots, many):
            if not any(all(judge in lot for lot in row) for judge in range(judges)):
                return list(row)
    return None


def some_rules():
    """Pairs of how many judges, and a rule for so many as a dict."""
    found = [(judges, answers) for judges in (1, 2) for answers in all_rules(judges)]
    found += [(3, answers) for answers in all_rules(3)[::3]]
    return found + [(4, answers) for answers in drawn_rule_dicts(4, 25, 510)]


class TestWinning(Case):
    def test_example(self):
        majority = by_quota(2)
        self.assertEqual(winning_lots(majority, 3), [[0, 1], [0, 2], [1, 2], [0, 1, 2]])
        self.assertEqual(vetoers(majority, 3), [])
        self.assertEqual(fewest_apart(majority, 3), [[0, 1], [0, 2], [1, 2]])

    def test_by_words(self):
        for judges, answers in some_rules():
            rule = rule_from(answers)
            lots = winning_by_words(answers, judges)
            self.assertEqual(winning_lots(rule, judges), lots)
            veto = [judge for judge in range(judges) if all(judge in lot for lot in lots)]
            self.assertEqual(vetoers(judges=judges, rule=rule), veto)
            told = fewest_apart(judges=judges, rule=rule)
            # Just one is so: some judge is in all winning lots, or there is such a list.
            self.assertNotEqual(told is None, not veto)
            if judges < 4 or not veto:
                self.assertEqual(told, apart_by_words(lots, judges), lots)

    def test_edges(self):
        for judges in (1, 2, 3):
            self.assertEqual(winning_lots(lambda _: False, judges), [])
            self.assertEqual(vetoers(lambda _: False, judges), list(range(judges)))
            self.assertIsNone(fewest_apart(lambda _: False, judges))
            self.assertEqual(len(winning_lots(lambda _: True, judges)), 2 ** judges)
            self.assertEqual(fewest_apart(lambda _: True, judges), [[]])
            self.assertEqual(vetoers(lambda _: True, judges), [])
            self.assertEqual(vetoers(by_quota(judges), judges), list(range(judges)))
            self.assertIsNone(fewest_apart(by_quota(judges), judges))
        self.assertEqual(winning_lots(judges=2, rule=lambda truths: truths[1]), [[1], [0, 1]])
        self.assertEqual(fewest_apart(by_quota(1), 2), [[0], [1]])

    def test_asked_in_this_order(self):
        for judges in (1, 2, 3, 5):
            right = sorted(itertools.product([False, True], repeat=judges), key=lambda row: (
                sum(row), [judge for judge in range(judges) if row[judge]]))
            calls = [winning_lots, vetoers, fewest_apart, lambda rule, judges: ring_bench(rule, judges, 2)]
            for call in calls:
                asked = []
                call(lambda truths: asked.append(truths) or sum(truths) > 1, judges)
                self.assertEqual(asked, right)
                self.assertEqual({type(truths) for truths in asked}, {tuple})

    def test_errors_in_their_order(self):
        calls = [winning_lots, vetoers, fewest_apart, lambda rule, judges: ring_bench(rule, judges, None)]
        for call in calls:
            for thing in not_functions():
                self.refuses(BadRule, {"thing": thing}, call, thing, None)
            for thing in not_numbers() + [0]:
                self.refuses(BadJudges, {"thing": thing}, call, lambda _: None, thing)
            for thing in any_objects():
                if not isinstance(thing, bool):
                    asked = []
                    self.refuses(NoTruth, {"thing": thing}, call, lambda truths: asked.append(truths) or thing, 2)
                    self.assertEqual(asked, [(False, False)])
            with self.assertRaises(KeyError):
                call({}.__getitem__, 2)
            with self.assertRaises(ZeroDivisionError):
                call(lambda truths: sum(truths) // 0 > 1, 2)

    def test_at_the_limit(self):
        for turn, answers in enumerate(drawn_rule_dicts(5, 12, 511)):
            rule = rule_from(answers)
            lots = winning_lots(rule, 5)
            self.assertEqual(lots, winning_by_words(answers, 5))
            told = fewest_apart(rule, 5)
            self.assertNotEqual(told is None, vetoers(rule, 5) == [])
            if told is not None and turn < 12:
                self.assertEqual(told, apart_by_words(lots, 5))
        self.assertEqual(fewest_apart(by_quota(4), 5), [
            [0, 1, 2, 3], [0, 1, 2, 4], [0, 1, 3, 4], [0, 2, 3, 4], [1, 2, 3, 4]])

    def test_new_each_time(self):
        winning_lots(by_quota(2), 3)[0].clear()
        fewest_apart(by_quota(2), 3)[0].clear()
        vetoers(by_quota(3), 3).clear()
        self.assertEqual(winning_lots(by_quota(2), 3)[0], [0, 1])
        self.assertEqual(fewest_apart(by_quota(2), 3)[0], [0, 1])
        self.assertEqual(vetoers(by_quota(3), 3), [0, 1, 2])


class TestRings(Case):
    def test_is_ringless(self):
        for debate in small_debates():
            self.assertIs(is_ringless(debate), not rings_by_words(debate))
        self.assertIs(is_ringless(debate=Debate([], [])), True)
        self.assertIs(is_ringless(Debate(["a"], [("a", "a")])), False)

    def check_bench(self, bench, rule, judges, many):
        self.assertIs(type(bench), list)
        self.assertEqual(len(bench), judges)
        for debate in bench:
            self.assertEqual(debate.statements(), sorted(f"a{at}" for at in range(many)))
            self.assertFalse(has_ring(debate))
        self.assertTrue(has_ring(merged_by(bench, rule)))

    def test_example(self):
        bench = ring_bench(many=3, judges=3, rule=by_quota(2))
        self.check_bench(bench, by_quota(2), 3, 3)
        self.assertIsNone(ring_bench(by_quota(2), 3, 2))
        self.assertIsNone(ring_bench(by_quota(2), 3, 1))

    def test_just_where_so_many_lots_have_no_common_judge(self):
        for judges, answers in some_rules():
            rule = rule_from(answers)
            apart = fewest_apart(rule, judges)
            for many in range(1, 6):
                told = ring_bench(rule, judges, many)
                self.assertEqual(told is None, apart is None or len(apart) > many)
                if told is not None:
                    self.check_bench(told, rule, judges, many)

    def test_by_all_benches(self):
        """Where it is None no bench at all of ringless judges merges into one with a ring."""
        cases = [(1, answers, many) for answers in all_rules(1) for many in (1, 2, 3)]
        cases += [(2, answers, many) for answers in all_rules(2) for many in (1, 2)]
        cases += [(2, answers, 3) for answers in all_rules(2)]
        cases += [(3, answers, many) for answers in all_rules(3)[::5] for many in (1, 2)]
        for judges, answers, many in cases:
            benches = itertools.product(ringless_debates(many), repeat=judges)
            possible = any(has_ring(rule_merged(bench, answers)) for bench in benches)
            self.assertEqual(ring_bench(rule_from(answers), judges, many) is not None, possible)

    def test_quotas(self):
        """Below the number of judges, rings of many are there just if quota * many <= judges * (many - 1)."""
        for judges in range(1, 6):
            for quota in range(1, judges + 1):
                apart = fewest_apart(by_quota(quota), judges)
                if quota == judges:
                    self.assertIsNone(apart)
                    self.assertIsNone(ring_bench(by_quota(quota), judges, 8))
                    continue
                fits = [many for many in range(1, 9) if quota * many <= judges * (many - 1)]
                self.assertEqual(len(apart), min(fits))
                self.assertGreaterEqual(len(apart), 2)
                for many in range(1, 9):
                    told = ring_bench(by_quota(quota), judges, many)
                    self.assertEqual(told is not None, many in fits)
                    if told is not None:
                        self.check_bench(told, by_quota(quota), judges, many)

    def test_rings_of_one(self):
        self.check_bench(ring_bench(lambda _: True, 2, 1), lambda _: True, 2, 1)
        self.assertIsNone(ring_bench(by_quota(1), 2, 1))
        self.assertIsNone(ring_bench(lambda _: False, 2, 4))

    def test_at_the_limit(self):
        self.check_bench(ring_bench(by_quota(5), 6, 6), by_quota(5), 6, 6)
        self.check_bench(ring_bench(by_quota(5), 6, 8), by_quota(5), 6, 8)
        self.assertIsNone(ring_bench(by_quota(5), 6, 5))
        for answers in drawn_rule_dicts(5, 5, 512):
            told = ring_bench(rule_from(answers), 5, 8)
            if told is not None:
                self.check_bench(told, rule_from(answers), 5, 8)
        self.assertEqual([is_ringless(debate) for debate in drawn_debates(20, 8, 513)],
                         [not has_ring(debate) for debate in drawn_debates(20, 8, 513)])

    def test_bad_many(self):
        for thing in not_numbers() + [0]:
            asked = []
            self.refuses(BadMany, {"thing": thing}, ring_bench, lambda truths: asked.append(truths) or True, 2, thing)
            self.assertEqual(len(asked), 4)
            self.refuses(BadMany, {"thing": thing}, ring_bench, lambda _: False, 2, thing)

    def test_alike(self):
        for judges, answers in some_rules()[::7]:
            self.assertEqual(ring_bench(rule_from(answers), judges, 4), ring_bench(rule_from(dict(answers)), judges, 4))
