"""Points 101 and 104: ways that are kept, and benches that spoil them."""

import itertools

from objections.errors import BadJudges, BadQuota, BadWay
from objections.kept import is_kept, spoiling_bench
from objections.lots import is_lot
from tests.benchwords import drawn_benches, quota_merged
from tests.helper import WAYS, Case, all_debates, any_objects, lots_by_words, not_numbers, not_words


def all_numbers(most):
    """All pairs of how many judges, and a quota of them."""
    return [(judges, quota) for judges in range(1, most + 1) for quota in range(1, judges + 1)]


def common_lots(bench, way):
    """The lots that are of the way for each judge."""
    rows = [lots_by_words(debate, way) for debate in bench]
    return [lot for lot in rows[0] if all(lot in row for row in rows)]


class TestKept(Case):
    def test_example(self):
        self.assertIs(is_kept("held", 3, 2), False)
        self.assertIs(is_kept(quota=2, judges=3, way="calm"), True)

    def test_words(self):
        for judges, quota in all_numbers(6) + [(30, 1), (30, 2), (30, 30), (29, 15)]:
            self.assertIs(is_kept("calm", judges, quota), True)
            for way in ("held", "settled"):
                self.assertIs(is_kept(way, judges, quota), quota == 1 or judges == 1)
            for way in ("whole", "least", "greatest"):
                self.assertIs(is_kept(way, judges, quota), judges == 1)

    def test_what_is_kept_is_so_by_all_benches(self):
        benches = list(itertools.product(all_debates(["a", "b"]), repeat=2))
        benches += drawn_benches(150, 3, 520) + drawn_benches(40, 4, 521)
        for bench in benches:
            for way in WAYS:
                for quota in range(1, len(bench) + 1):
                    if is_kept(way, len(bench), quota):
                        merged = quota_merged(bench, quota)
                        lots = lots_by_words(merged, way)
                        self.assertTrue(all(lot in lots for lot in common_lots(bench, way)), way)

    def test_just_one(self):
        for judges, quota in all_numbers(6):
            for way in WAYS:
                told = spoiling_bench(way, judges, quota)
                self.assertEqual(told is None, is_kept(way, judges, quota))
                if told is not None:
                    bench, lot = told
                    self.assertEqual((type(told), type(bench), type(lot), len(bench)), (tuple, list, list, judges))
                    self.assertLessEqual(len(bench[0]), 8)
                    self.assertEqual(lot, sorted(lot))
                    self.assertTrue(all(debate.statements() == bench[0].statements() for debate in bench))
                    self.assertTrue(all(is_lot(debate, way, lot) for debate in bench))
                    merged = quota_merged(bench, quota)
                    self.assertFalse(is_lot(merged, way, lot))
                    if judges < 4:
                        self.assertIn(lot, common_lots(bench, way))
                        self.assertNotIn(lot, lots_by_words(merged, way))

    def test_alike_and_new_each_time(self):
        for way in WAYS[1:]:
            bench, lot = spoiling_bench(way=way, judges=3, quota=2)
            kept = (list(bench), list(lot))
            bench.clear()
            lot.clear()
            self.assertEqual(spoiling_bench(way, 3, 2), kept)

    def test_errors_in_their_order(self):
        for call in (is_kept, spoiling_bench):
            for thing in not_words(WAYS):
                self.refuses(BadWay, {"thing": thing}, call, thing, None, None)
            for thing in not_numbers() + [0]:
                self.refuses(BadJudges, {"thing": thing}, call, "calm", thing, None)
            for thing in any_objects() + [0, 4, -1]:
                if not (type(thing) is int and 1 <= thing <= 3):
                    self.refuses(BadQuota, {"thing": thing}, call, "calm", 3, thing)
