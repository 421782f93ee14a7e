"""Points 97, 100 and 104: benches, merged by quotas and rules, and the thin links of rings."""

import itertools

from objections.benches import merged, merged_by, thin_link
from objections.debates import Debate
from objections.errors import BadBench, BadQuota, BadRing, BadRule, NoTruth
from tests.benchwords import (
    all_rules, by_quota, drawn_rule_dicts, has_ring, majority_bench, many_benches, odd_benches, quota_merged,
    ringless_debates, rule_from, rule_merged,
)
from tests.helper import Case, any_objects, drawn_debates, not_functions

A, B = Debate(["a", "b"], [("a", "b")]), Debate(["a", "b"], [("a", "b"), ("b", "a"), ("b", "b")])


class TestMerged(Case):
    def test_plain_ones(self):
        self.assertEqual(merged([A, B], 1), B)
        self.assertEqual(merged(quota=2, bench=(A, B)), A)
        self.assertEqual(merged([A], 1), A)
        self.assertEqual(merged([A, A, B], 2), A)
        self.assertEqual(merged([Debate([], [])] * 3, 3), Debate([], []))

    def test_by_words(self):
        for bench in many_benches():
            for quota in range(1, len(bench) + 1):
                self.assertEqual(merged(bench, quota), quota_merged(bench, quota))
                self.assertEqual(merged_by(bench, by_quota(quota)), quota_merged(bench, quota))

    def test_by_rules(self):
        for bench in many_benches()[::4]:
            judges = len(bench)
            rules = all_rules(judges) if judges < 3 else drawn_rule_dicts(judges, 6, 503)
            for answers in rules:
                self.assertEqual(merged_by(tuple(bench), rule_from(answers)), rule_merged(bench, answers))
        self.assertEqual(merged_by(rule=lambda truths: True, bench=[A]).objections(), [
            ("a", "a"), ("a", "b"), ("b", "a"), ("b", "b")])
        told = merged_by([A, B], lambda truths: truths == (False, True))
        self.assertEqual(told.objections(), [("b", "a"), ("b", "b")])

    def test_how_a_rule_is_asked(self):
        for bench in many_benches():
            asked = []
            merged_by(bench, lambda truths: asked.append(truths) or False)
            pairs = itertools.product(bench[0].statements(), repeat=2)
            right = [tuple(pair in debate.objections() for debate in bench) for pair in pairs]
            self.assertEqual(asked, list(dict.fromkeys(right)))
            for truths in asked:
                self.assertEqual({type(truths)} | {type(truth) for truth in truths}, {tuple, bool})

    def test_no_truth_at_once(self):
        for thing in any_objects() + [1, 0]:
            if not isinstance(thing, bool):
                asked = []
                self.refuses(NoTruth, {"thing": thing}, merged_by, [A, B], lambda truths: asked.append(truths) or thing)
                self.assertEqual(asked, [(False, False)])
        self.refuses(NoTruth, {"thing": None}, merged_by, [A, B], lambda truths: None if truths[0] else False)
        self.assertEqual(merged_by([Debate([], [])], lambda truths: None), Debate([], []))

    def test_what_a_rule_raises_comes_out(self):
        def rule(_):
            raise KeyError("told")

        with self.assertRaises(KeyError):
            merged_by([A], rule)

    def test_errors_in_their_order(self):
        for thing, index in odd_benches([A]):
            self.refuses(BadBench, {"index": index}, merged, thing, None)
            self.refuses(BadBench, {"index": index}, merged_by, thing, None)
            self.refuses(BadBench, {"index": index}, thin_link, thing, None, None)
        for thing in any_objects() + [0, 3, -1, True]:
            if not (type(thing) is int and thing in (1, 2)):
                self.refuses(BadQuota, {"thing": thing}, merged, [A, B], thing)
                self.refuses(BadQuota, {"thing": thing}, thin_link, [A, B], thing, None)
        for thing in not_functions():
            self.refuses(BadRule, {"thing": thing}, merged_by, [A, B], thing)

    def test_at_the_limit(self):
        bench = drawn_debates(8, 8, 504)
        for quota in range(1, 9):
            self.assertEqual(merged(bench, quota), quota_merged(bench, quota))
        self.assertEqual(merged_by(bench[:5], by_quota(3)), quota_merged(bench[:5], 3))

    def test_nothing_is_changed(self):
        bench = [A, B]
        told = merged(bench, 1)
        bench.clear()
        self.assertEqual(told, B)
        self.assertEqual(merged([A, B], 1).objections(), B.objections())


class TestThinLinks(Case):
    def test_plain_ones(self):
        bench = majority_bench()
        self.assertIsNone(thin_link(bench, 2, ["a0", "a1", "a2"]))
        self.assertEqual(thin_link(bench, 3, ["a1", "a2", "a0"]), ("a1", "a2"))
        self.assertEqual(thin_link(ring=("a0", "a2"), quota=1, bench=bench), ("a0", "a2"))
        self.assertEqual(thin_link([A, B], 2, ["a", "b"]), ("b", "a"))
        self.assertIsNone(thin_link([A, B], 1, ["b"]))
        self.assertEqual(thin_link([A, B], 2, ["b"]), ("b", "b"))

    def test_by_words(self):
        for bench in many_benches()[1::3]:
            names = bench[0].statements()
            for quota in range(1, len(bench) + 1):
                for many in range(1, len(names) + 1):
                    for ring in itertools.permutations(names, many):
                        links = [(name, ring[(at + 1) % many]) for at, name in enumerate(ring)]
                        thin = [
                            link for link in links if sum(link in debate.objections() for debate in bench) < quota]
                        self.assertEqual(thin_link(bench, quota, list(ring)), thin[0] if thin else None)

    def test_some_link_is_thin(self):
        """Where all judges are ringless, and quota * many is above judges * (many - 1)."""
        for many in (1, 2, 3):
            names = [f"a{at}" for at in range(many)]
            for bench in itertools.islice(itertools.product(ringless_debates(many), repeat=3), 0, None, 7):
                for quota in (1, 2, 3):
                    if quota * many > 3 * (many - 1):
                        self.assertIsNotNone(thin_link(bench, quota, names))
                    elif thin_link(bench, quota, names) is None:
                        self.assertTrue(has_ring(quota_merged(bench, quota)))

    def test_bad_ring(self):
        self.refuses_no_lists(BadRing, thin_link, [A, B], 2)
        for thing in ([], ()):
            self.refuses(BadRing, {"index": 0}, thin_link, [A, B], 2, thing)
        for thing in any_objects() + ["c", "b", ["a"]]:
            if thing != "a":
                self.refuses(BadRing, {"index": 1}, thin_link, [A, B], 1, ["b", thing, thing])
        for thing in any_objects():
            self.refuses(BadRing, {"index": 0}, thin_link, [Debate([], [])], 1, [thing])

    def test_at_the_limit(self):
        names = [f"a{at}" for at in range(8)]
        links = [(names[at], names[(at + 1) % 8]) for at in range(8)]
        bench = [Debate(names, links[:at] + links[at + 1:]) for at in range(8)]
        self.assertIsNone(thin_link(bench, 7, names))
        self.assertEqual(thin_link(bench, 8, names), ("a0", "a1"))
