"""Points 102, 103 and 104: verdicts of judges, where they clash, and who is silenced."""

import itertools

from objections.debates import Debate
from objections.errors import BadBench, BadJudges, BadQuota, NoStatement
from objections.verdicts import alone_for, clash_bench, clash_sure, fewest_silenced, let_stand, standing_by
from tests.benchwords import drawn_benches, in_least, majority_bench, many_benches, odd_benches, quota_merged
from tests.helper import Case, all_debates, any_objects, calm, drawn_debates, not_numbers, not_statements

A, B = Debate(["a", "b"], [("a", "b")]), Debate(["a", "b"], [("b", "a"), ("b", "b")])


def standing_by_words(bench, quota):
    return [name for name in bench[0].statements() if sum(in_least(debate, name) for debate in bench) >= quota]


def merged_without(bench, quota, silent):
    """The merged debate with nothing put by some judges, who are judges still."""
    nothing = Debate(bench[0].statements(), [])
    return quota_merged([nothing if judge in silent else debate for judge, debate in enumerate(bench)], quota)


class TestVerdicts(Case):
    def test_plain_ones(self):
        self.assertEqual(let_stand([A, B, A], "a"), 2)
        self.assertEqual(let_stand(statement="b", bench=(A, B, A)), 0)
        self.assertEqual(standing_by([A, B, A], 2), ["a"])
        self.assertEqual(standing_by(quota=3, bench=[A, B, A]), [])
        self.assertEqual(standing_by([Debate([], [])], 1), [])

    def test_by_words(self):
        for bench in many_benches():
            for name in bench[0].statements():
                self.assertEqual(let_stand(bench, name), sum(in_least(debate, name) for debate in bench))
            for quota in range(1, len(bench) + 1):
                self.assertEqual(standing_by(bench, quota), standing_by_words(bench, quota))

    def test_errors_in_their_order(self):
        for thing, index in odd_benches([A]):
            self.refuses(BadBench, {"index": index}, let_stand, thing, None)
            self.refuses(BadBench, {"index": index}, standing_by, thing, None)
            self.refuses(BadBench, {"index": index}, fewest_silenced, thing, None, None)
            self.refuses(BadBench, {"index": index}, alone_for, thing, None, None)
        for thing in not_statements(A):
            self.refuses(NoStatement, {"thing": thing}, let_stand, [A, B], thing)
            self.refuses(NoStatement, {"thing": thing}, fewest_silenced, [A, B], 2, thing)
            self.refuses(NoStatement, {"thing": thing}, alone_for, [A, B], 2, thing)
        for thing in any_objects() + [0, 3, -1]:
            if not (type(thing) is int and thing in (1, 2)):
                self.refuses(BadQuota, {"thing": thing}, standing_by, [A, B], thing)
                self.refuses(BadQuota, {"thing": thing}, fewest_silenced, [A, B], thing, None)
                self.refuses(BadQuota, {"thing": thing}, alone_for, [A, B], thing, None)

    def test_new_each_time(self):
        standing_by([A], 1).clear()
        self.assertEqual(standing_by([A], 1), ["a"])


class TestClashes(Case):
    def test_example(self):
        self.assertIs(clash_sure(3, 2, 2), False)
        self.assertIs(clash_sure(other=3, quota=2, judges=3), True)

    def test_sure_ones_never_clash(self):
        benches = [[debate] for debate in all_debates(["a", "b"])]
        benches += list(itertools.product(all_debates(["a", "b"]), repeat=2))
        benches += list(itertools.product(all_debates(["a", "b"]), repeat=3))[::17]
        for bench in benches + drawn_benches(120, 3, 530) + drawn_benches(30, 4, 531):
            for quota in range(1, len(bench) + 1):
                lot = standing_by(bench, quota)
                for other in range(1, len(bench) + 1):
                    if clash_sure(len(bench), quota, other):
                        self.assertTrue(calm(quota_merged(bench, other), lot))

    def test_clashing_benches(self):
        for judges in range(1, 7):
            for quota, other in itertools.product(range(1, judges + 1), repeat=2):
                bench = clash_bench(judges, quota, other)
                self.assertEqual(bench is None, clash_sure(judges, quota, other))
                self.assertIs(clash_sure(judges, quota, other), other + 2 * quota > 2 * judges)
                if bench is not None:
                    self.assertEqual((type(bench), len(bench)), (list, judges))
                    self.assertTrue(all(debate.statements() == bench[0].statements() for debate in bench))
                    self.assertLessEqual(len(bench[0]), 8)
                    self.assertFalse(calm(quota_merged(bench, other), standing_by_words(bench, quota)))

    def test_only_numbers(self):
        for quota, other in itertools.product((1, 14, 15, 16, 29, 30), repeat=2):
            self.assertIs(clash_sure(30, quota, other), other + 2 * quota > 60)
            bench = clash_bench(30, quota, other)
            self.assertEqual(bench is None, other + 2 * quota > 60)
            if bench is not None:
                self.assertFalse(calm(quota_merged(bench, other), standing_by_words(bench, quota)))

    def test_alike_and_new_each_time(self):
        bench = clash_bench(other=2, quota=2, judges=3)
        kept = list(bench)
        bench.clear()
        self.assertEqual(clash_bench(3, 2, 2), kept)

    def test_errors_in_their_order(self):
        for call in (clash_sure, clash_bench):
            for thing in not_numbers() + [0]:
                self.refuses(BadJudges, {"thing": thing}, call, thing, None, None)
            for thing in any_objects() + [0, 4]:
                if not (type(thing) is int and 1 <= thing <= 3):
                    self.refuses(BadQuota, {"thing": thing}, call, 3, thing, [None])
                    self.refuses(BadQuota, {"thing": thing}, call, 3, 1, thing)


class TestSilenced(Case):
    def test_plain_ones(self):
        bench = majority_bench()
        self.assertEqual(fewest_silenced(bench, 2, "a0"), [1])
        self.assertEqual(fewest_silenced(statement="a0", quota=1, bench=bench), [0, 2])
        self.assertEqual(alone_for(statement="b", quota=1, bench=[A, A]), [])
        self.assertEqual(alone_for([A, A], 2, "b"), [0, 1])
        self.assertEqual(fewest_silenced([A, A], 2, "b"), [0])
        self.assertEqual(fewest_silenced([A, A], 1, "b"), [0, 1])
        self.assertEqual(fewest_silenced([A, A], 1, "a"), [])

    def test_by_words(self):
        for bench in many_benches():
            judges = list(range(len(bench)))
            for quota in range(1, len(bench) + 1):
                for name in bench[0].statements():
                    rows = [row for many in range(len(bench) + 1) for row in itertools.combinations(judges, many)]
                    fit = [row for row in rows if in_least(merged_without(bench, quota, row), name)]
                    self.assertEqual(fewest_silenced(bench, quota, name), list(fit[0]))
                    stood = in_least(merged_without(bench, quota, []), name)
                    turning = [
                        judge for judge in judges if in_least(merged_without(bench, quota, [judge]), name) != stood]
                    self.assertEqual(alone_for(bench, quota, name), turning)
                    self.assertEqual(fewest_silenced(bench, quota, name) == [], stood)

    def test_judges_who_turn_it_the_other_way(self):
        """Without the one who answers the statement falls."""
        bench = [Debate(["a", "b", "c"], [("c", "b")]), Debate(["a", "b", "c"], [("b", "a")])]
        self.assertEqual(alone_for(bench, 1, "a"), [0])
        self.assertEqual(alone_for(bench, 1, "b"), [0])
        self.assertEqual(alone_for(bench, 1, "c"), [])

    def test_at_the_limit(self):
        bench = drawn_debates(8, 8, 532)
        for quota in (1, 3, 8):
            for name in bench[0].statements()[:3]:
                told = fewest_silenced(bench, quota, name)
                self.assertTrue(in_least(merged_without(bench, quota, told), name))
                self.assertLessEqual(len(told), 9 - quota)
                alone = alone_for(bench, quota, name)
                self.assertEqual(len(told) == 1, told != [] and bool(alone))
            self.assertEqual(standing_by(bench, quota), standing_by_words(bench, quota))

    def test_new_each_time(self):
        fewest_silenced([A, A], 2, "b").clear()
        alone_for([A, A], 2, "b").clear()
        self.assertEqual((fewest_silenced([A, A], 2, "b"), alone_for([A, A], 2, "b")), ([0], [0, 1]))
