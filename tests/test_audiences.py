"""Points 62, 63, 68 and 69: audiences, rings of one value, and one value raised."""

import itertools

from objections.audiences import all_audiences, heard_debate, is_value_ring, raised, stands_raised, value_ring
from objections.debates import Debate
from objections.errors import BadAudience, BadValue, BadWorths
from objections.lots import lots_of
from tests.helper import (
    Case, any_objects, audiences_by_words, cut, drawn_debates, drawn_worths, heard, is_ring, lots_by_words, not_lists,
    rings_by_words, worthy_debates,
)

DEBATE = Debate(["a", "b", "c"], [("a", "b"), ("b", "c"), ("c", "a")])
WORTHS = {"a": "life", "b": "money", "c": "life"}


def bad_worths():
    """Any objects that are no worths of the example, though some nearly are."""
    return any_objects() + [
        {"a": "life", "b": "money"}, WORTHS | {"d": "life"}, WORTHS | {"a": "Life"}, WORTHS | {"a": ["life"]},
        WORTHS | {"a": None}, WORTHS | {"a": 1}, WORTHS | {"c": ""}, list(WORTHS.items()), list(WORTHS),
        {"a": "life", "b": "money", "d": "life"}, {"a": "life", "b": "money", ("c",): "life"}, WORTHS | {"b": True},
    ]


class TestHeard(Case):
    def test_example(self):
        self.assertEqual(heard_debate(DEBATE, WORTHS, ["life", "money"]),
                         Debate(["a", "b", "c"], [("a", "b"), ("c", "a")]))
        self.assertEqual(heard_debate(audience=("money", "life"), worths=WORTHS, debate=DEBATE),
                         Debate(["a", "b", "c"], [("b", "c"), ("c", "a")]))
        self.assertEqual(lots_of(heard_debate(DEBATE, WORTHS, ["life", "money"]), "least"), [["b", "c"]])
        self.assertEqual(lots_of(heard_debate(DEBATE, WORTHS, ["money", "life"]), "least"), [["a", "b"]])
        self.assertEqual(all_audiences(DEBATE, WORTHS), [["life", "money"], ["money", "life"]])

    def test_by_words(self):
        for debate, worths in worthy_debates():
            audiences = all_audiences(debate, worths)
            self.assertEqual(audiences, audiences_by_words(worths))
            for audience in audiences:
                self.assertEqual(heard_debate(debate, worths, audience), heard(debate, worths, audience))

    def test_nothing_one_value_and_five(self):
        self.assertEqual(all_audiences(Debate([], []), {}), [[]])
        self.assertEqual(heard_debate(Debate([], []), {}, []), Debate([], []))
        loop = Debate(["a"], [("a", "a")])
        self.assertEqual(heard_debate(loop, {"a": "v"}, ["v"]), loop)
        self.assertEqual(all_audiences(worths={"a": "v"}, debate=loop), [["v"]])
        debate = drawn_debates(1, 8, 150)[0]
        worths = {name: f"v{at % 5}" for at, name in enumerate(debate.statements())}
        self.assertEqual(len(all_audiences(debate, worths)), 120)
        self.assertEqual(all_audiences(debate, worths), sorted(all_audiences(debate, worths)))
        self.assertEqual({type(audience) for audience in all_audiences(debate, worths)}, {list})

    def test_new_each_time(self):
        told = all_audiences(DEBATE, WORTHS)
        told[0].clear()
        told.clear()
        self.assertEqual(all_audiences(DEBATE, WORTHS), [["life", "money"], ["money", "life"]])

    def test_bad_worths(self):
        calls = [
            lambda thing: heard_debate(DEBATE, thing, 5), lambda thing: all_audiences(DEBATE, thing),
            lambda thing: value_ring(DEBATE, thing), lambda thing: is_value_ring(DEBATE, thing, 5),
            lambda thing: raised(DEBATE, thing, 5, 5), lambda thing: stands_raised(DEBATE, thing),
        ]
        for call in calls:
            for thing in bad_worths():
                self.refuses(BadWorths, {"thing": thing}, call, thing)
            for thing in not_lists():
                if thing != {}:
                    self.refuses(BadWorths, {"thing": thing}, call, thing)

    def test_bad_audiences(self):
        debate = Debate(["a", "b", "c"], [])
        worths = {"a": "u", "b": "v", "c": "w"}
        for call in (lambda thing: heard_debate(debate, worths, thing), lambda thing: raised(debate, worths, thing, 5)):
            self.refuses_no_lists(BadAudience, call)
            for thing in any_objects() + ["v", "x", ["w"], "a"]:
                self.refuses(BadAudience, {"index": 1}, call, ["v", thing, thing])
            self.refuses(BadAudience, {"index": 3}, call, ["v", "u", "w", "u"])
            self.refuses(BadAudience, {"index": 3}, call, ["v", "u", "w", "x"])
            for lacking in ([], ["u"], ("w", "u"), ["v", "w"]):
                self.refuses(BadAudience, {"index": len(lacking)}, call, lacking)


class TestRings(Case):
    def test_example(self):
        self.assertIsNone(value_ring(DEBATE, WORTHS))
        alike = {"a": "life", "b": "life", "c": "life"}
        self.assertTrue(is_ring(DEBATE, value_ring(worths=alike, debate=DEBATE)))
        self.assertIs(is_value_ring(thing=["b", "c", "a"], worths=alike, debate=DEBATE), True)
        self.assertIs(is_value_ring(DEBATE, WORTHS, ["b", "c", "a"]), False)

    def test_just_one(self):
        for debate, worths in worthy_debates():
            right = [ring for ring in rings_by_words(debate) if len({worths[name] for name in ring}) == 1]
            told = value_ring(debate, worths)
            self.assertEqual(told is None, right == [])
            heards = [heard(debate, worths, audience) for audience in audiences_by_words(worths)]
            if told is None:
                for other in heards:
                    self.assertEqual(rings_by_words(other), [])
                    lots = [lots_by_words(other, way) for way in ("whole", "least", "greatest", "settled")]
                    self.assertEqual(lots, [lots[1]] * 4)
            else:
                self.assertIs(type(told), list)
                self.assertTrue(is_ring(debate, told))
                self.assertEqual(len({worths[name] for name in told}), 1)
                self.assertIs(is_value_ring(debate, worths, told), True)
                self.assertTrue(all(is_ring(other, told) for other in heards))

    def test_what_is_a_ring(self):
        for debate, worths in worthy_debates():
            names = debate.statements()
            if len(names) < 5:
                for many in range(len(names) + 1):
                    for row in itertools.permutations(names, many):
                        right = is_ring(debate, row) and len({worths[name] for name in row}) == 1
                        self.assertIs(is_value_ring(debate, worths, list(row)), right)

    def test_any_objects(self):
        debate = Debate(["a", "b"], [("a", "b"), ("b", "a")])
        worths = {"a": "v", "b": "v"}
        self.assertIs(is_value_ring(debate, worths, ("a", "b")), True)
        odd = any_objects() + [["a", "b", "a", "b"], ["a"], ["a", "c"], ["a", None], [["a"], "b"], ["a", "b", "b"]]
        for thing in odd:
            self.assertIs(is_value_ring(debate, worths, thing), False)
        self.assertIs(is_value_ring(Debate(["a"], [("a", "a")]), {"a": "v"}, ["a"]), True)
        self.assertIsNone(value_ring(Debate([], []), {}))
        self.assertIs(is_value_ring(Debate([], []), {}, []), False)

    def test_the_same_and_new(self):
        worths = dict.fromkeys("cab", "v")
        told = value_ring(DEBATE, worths)
        self.assertEqual(value_ring(DEBATE, {name: "v" for name in "abc"}), told)
        told.clear()
        self.assertTrue(value_ring(DEBATE, worths))


class TestRaised(Case):
    def test_raised(self):
        debate = Debate(["a", "b", "c"], [])
        worths = {"a": "u", "b": "v", "c": "w"}
        self.assertEqual(raised(debate, worths, ["u", "v", "w"], "w"), ["w", "u", "v"])
        self.assertEqual(raised(value="v", audience=("u", "v", "w"), worths=worths, debate=debate), ["v", "u", "w"])
        self.assertEqual(raised(debate, worths, ["u", "v", "w"], "u"), ["u", "v", "w"])
        passed = ["u", "v", "w"]
        raised(debate, worths, passed, "u").clear()
        self.assertEqual(passed, ["u", "v", "w"])
        for thing in any_objects() + ["x", "a"]:
            self.refuses(BadValue, {"thing": thing}, raised, debate, worths, ["u", "v", "w"], thing)

    def test_example(self):
        self.assertEqual(stands_raised(DEBATE, WORTHS), ["b", "c"])
        self.assertEqual(stands_raised(worths={}, debate=Debate([], [])), [])

    def test_facts(self):
        for debate, worths in worthy_debates():
            right = []
            for value in sorted(set(worths.values())):
                own = [name for name in debate.statements() if worths[name] == value]
                alone = lots_by_words(cut(debate, own), "least")[0]
                right += alone
                for audience in audiences_by_words(worths):
                    told = heard(debate, worths, raised(debate, worths, audience, value))
                    self.assertEqual(
                        [pair for pair in told.objections() if pair[1] in own],
                        [pair for pair in debate.objections() if set(pair) <= set(own)])
                    self.assertLessEqual(set(alone), set(lots_by_words(told, "least")[0]))
            self.assertEqual(stands_raised(debate, worths), sorted(right))

    def test_at_the_limit(self):
        for seed, debate in enumerate(drawn_debates(4, 8, 151)):
            worths = drawn_worths(debate, 5, seed)
            self.assertLessEqual(set(stands_raised(debate, worths)), set(debate.statements()))
