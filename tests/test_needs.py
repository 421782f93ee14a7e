"""Point 54: needs that rest."""

from objections.errors import BadLot
from objections.groups import Grouped, grouped_labellings
from objections.needs import need_ranks, unrested
from tests.helper import Case, any_objects, ascending, drawn_groups, not_lists, subsets

NAMES = ["a", "b", "c", "d", "e"]
GROUPED = Grouped(NAMES, [], [("b", "a"), ("c", "a"), ("c", "b"), ("d", "e"), ("e", "d")])


def ranks_by_words(grouped, lot):
    """Ranks by going down from each member along what it needs, as far as no member comes again."""
    needs = grouped.parts()[2]

    def rank(name, above):
        if name not in lot or name in above:
            return None
        ranks = [rank(other, above + [name]) for one, other in needs if one == name]
        return None if None in ranks else 1 + max(ranks, default=-1)

    return {name: rank(name, []) for name in sorted(lot)}


class TestNeeds(Case):
    def test_ranks(self):
        self.assertEqual(need_ranks(GROUPED, NAMES), {"a": 0, "b": 1, "c": 2, "d": None, "e": None})
        self.assertEqual(need_ranks(lot=("c", "b"), grouped=GROUPED), {"b": None, "c": None})
        self.assertEqual(need_ranks(GROUPED, []), {})
        self.assertEqual(unrested(GROUPED, NAMES), {"d": "e", "e": "d"})
        self.assertEqual(unrested(lot=("c", "b"), grouped=GROUPED), {"b": "a", "c": "a"})
        self.assertEqual(unrested(GROUPED, ["a", "c"]), {"c": "b"})
        self.assertEqual(unrested(GROUPED, ["a", "b", "c"]), {})

    def test_two_that_need_one_another(self):
        ring = Grouped(["a", "b"], [], [("a", "b"), ("b", "a")])
        self.assertIn({"a": "in", "b": "in"}, grouped_labellings(ring, "settled"))
        self.assertEqual(need_ranks(ring, ["b", "a"]), {"a": None, "b": None})
        self.assertEqual(unrested(ring, ["b", "a"]), {"a": "b", "b": "a"})
        itself = Grouped(["a", "b"], [], [("a", "a"), ("b", "a")])
        self.assertEqual(need_ranks(itself, ["b", "a"]), {"a": None, "b": None})
        self.assertEqual(unrested(itself, ["b"]), {"b": "a"})

    def test_a_need_that_rests_beside_one_that_does_not(self):
        grouped = Grouped(NAMES, [], [("a", "b"), ("a", "d"), ("d", "d"), ("b", "c")])
        self.assertEqual(need_ranks(grouped, NAMES), {"a": None, "b": 1, "c": 0, "d": None, "e": 0})
        self.assertEqual(unrested(grouped, NAMES), {"a": "d", "d": "d"})

    def test_by_words(self):
        for grouped in drawn_groups(80, 5, 2, 6, 100):
            for lot in subsets(grouped.parts()[0]):
                ranks = need_ranks(grouped, lot[::-1])
                self.assertEqual(ranks, ranks_by_words(grouped, lot))
                told = unrested(grouped, tuple(lot[::-1]))
                right = {
                    name: min(other for one, other in grouped.parts()[2] if one == name and ranks.get(other) is None)
                    for name in lot if ranks[name] is None
                }
                self.assertEqual(told, right)
                self.assertTrue(ascending(ranks) and ascending(told))

    def test_new_each_time(self):
        need_ranks(GROUPED, ["a"]).clear()
        unrested(GROUPED, ["d"]).clear()
        self.assertEqual((need_ranks(GROUPED, ["a"]), unrested(GROUPED, ["d"])), ({"a": 0}, {"d": "e"}))

    def test_bad_lots(self):
        for call in (need_ranks, unrested):
            for thing in not_lists():
                self.refuses(BadLot, {"index": 0}, call, GROUPED, thing)
            for thing in any_objects() + ["b", "f", ["c"]]:
                if thing != "a":
                    self.refuses(BadLot, {"index": 1}, call, GROUPED, ["b", thing, thing])
