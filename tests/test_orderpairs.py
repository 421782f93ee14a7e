"""Points 65, 67 and 69: pairs of values, and how near audiences are."""

import itertools

from objections.audiences import all_audiences
from objections.debates import Debate
from objections.errors import BadAudience, BadHow, BadPairs, BadWay, BadWorths, NoStatement
from objections.forwhom import audiences_for
from objections.orderpairs import audiences_kept, exchanges, fewest_pairs, nearest, pairs_fault
from tests.helper import (
    HOWS, WAYS, Case, any_objects, audiences_by_words, drawn_debates, heard, not_lists, not_statements, not_words,
    stands_by_words, subsets, worthy_debates,
)

DEBATE = Debate(["a", "b", "c"], [("a", "b"), ("b", "c"), ("c", "a")])
WORTHS = {"a": "life", "b": "money", "c": "life"}
THREE = Debate(["a", "b", "c"], [])
VALUES = {"a": "u", "b": "v", "c": "w"}


def kept_by_words(worths, pairs):
    return [
        audience for audience in audiences_by_words(worths)
        if all(audience.index(above) < audience.index(below) for above, below in pairs)
    ]


def steps_by_words(one, other):
    """How many exchanges of neighbours lead from one to the other, by trying all."""
    reached, many = [tuple(one)], 0
    while tuple(other) not in reached:
        for row in list(reached):
            for at in range(len(row) - 1):
                further = row[:at] + (row[at + 1], row[at]) + row[at + 2:]
                if further not in reached:
                    reached.append(further)
        many += 1
    return many


def all_pairs(worths):
    values = sorted(set(worths.values()))
    return [(above, below) for above, below in itertools.product(values, repeat=2) if above != below]


class TestKept(Case):
    def test_example(self):
        self.assertEqual(audiences_kept(DEBATE, WORTHS, [("money", "life")]), [["money", "life"]])
        self.assertEqual(audiences_kept(pairs=(["life", "money"],), worths=WORTHS, debate=DEBATE), [["life", "money"]])

    def test_by_words(self):
        for debate, worths in worthy_debates():
            for pairs in [row for row in subsets(all_pairs(worths)) if len(row) < 4][::2]:
                right = kept_by_words(worths, pairs)
                if right:
                    self.assertEqual(audiences_kept(debate, worths, pairs[::-1]), right)
                    self.assertEqual(audiences_kept(debate, worths, [list(pair) for pair in pairs]), right)
                else:
                    index = [at for at in range(len(pairs)) if not kept_by_words(worths, pairs[:at + 1])][0]
                    self.refuses(BadPairs, {"index": index}, audiences_kept, debate, worths, pairs)

    def test_empty_list_of_pairs(self):
        self.assertEqual(audiences_kept(THREE, VALUES, []), audiences_by_words(VALUES))
        self.assertEqual(audiences_kept(Debate([], []), {}, ()), [[]])
        told = audiences_kept(THREE, VALUES, [])
        told[0].clear()
        told.clear()
        self.assertEqual(len(audiences_kept(THREE, VALUES, [])[0]), 3)

    def test_errors(self):
        calls = [lambda worths, pairs: audiences_kept(THREE, worths, pairs),
                 lambda worths, pairs: pairs_fault(THREE, worths, "whole", "a", "all", pairs)]
        for call in calls:
            for thing in any_objects() + [VALUES | {"a": 5}]:
                self.refuses(BadWorths, {"thing": thing}, call, thing, 5)
            for thing in not_lists():
                self.refuses(BadPairs, {"index": 0}, call, VALUES, thing)
            odd = any_objects() + [
                ("u", "v"), ["u", "v"], ("v", "u"), ("w", "u"), ("u", "u"), ("v", "v"), ("u",), ("u", "v", "w"),
                ("u", "x"), ("x", "u"), ("u", None), (["u"], "v"), "uv",
            ]
            for thing in odd:
                self.refuses(BadPairs, {"index": 2}, call, VALUES, [("u", "v"), ["v", "w"], thing, thing])
            self.refuses(BadPairs, {"index": 0}, call, VALUES, [("u", "u")])


class TestFault(Case):
    def test_example(self):
        self.assertIsNone(pairs_fault(DEBATE, WORTHS, "least", "a", "all", [("money", "life")]))
        self.assertEqual(pairs_fault(pairs=[], how="all", statement="a", way="least", worths=WORTHS, debate=DEBATE),
                         ["life", "money"])

    def test_by_words(self):
        for turn, (debate, worths) in enumerate(worthy_debates()):
            way, how = (WAYS * 3)[turn % 18], (HOWS * 2)[turn % 5]
            for name in debate.statements():
                for pairs in subsets(all_pairs(worths))[::5]:
                    if kept_by_words(worths, pairs):
                        right = [
                            audience for audience in kept_by_words(worths, pairs)
                            if not stands_by_words(heard(debate, worths, audience), way, name, how)
                        ]
                        told = pairs_fault(debate, worths, way, name, how, pairs)
                        self.assertEqual(told, right[0] if right else None)

    def test_errors(self):
        for call in (lambda *given: pairs_fault(*given, 5), fewest_pairs,
                     lambda debate, worths, *given: nearest(debate, worths, ["life", "money"], *given)):
            for thing in any_objects() + [WORTHS | {"a": 5}]:
                self.refuses(BadWorths, {"thing": thing}, call, DEBATE, thing, 5, 5, 5)
            for thing in not_words(WAYS) + ["tops"]:
                self.refuses(BadWay, {"thing": thing}, call, DEBATE, WORTHS, thing, 5, 5)
            for thing in not_statements(DEBATE) + ["d"]:
                self.refuses(NoStatement, {"thing": thing}, call, DEBATE, WORTHS, "whole", thing, 5)
            for thing in not_words(HOWS):
                self.refuses(BadHow, {"thing": thing}, call, DEBATE, WORTHS, "whole", "c", thing)


class TestFewest(Case):
    def test_example(self):
        self.assertEqual(fewest_pairs(DEBATE, WORTHS, "least", "a", "all"), [[("money", "life")]])
        self.assertEqual(fewest_pairs(how="all", statement="b", way="least", worths=WORTHS, debate=DEBATE), [[]])
        self.assertEqual(fewest_pairs(DEBATE, WORTHS, "calm", "a", "all"), [])

    def test_by_words(self):
        sizes = set()
        for turn, (debate, worths) in enumerate(worthy_debates()):
            for way, how in (((WAYS * 3)[turn % 18], (HOWS * 2)[turn % 5]), ("least", "all")):
                for name in debate.statements()[:2]:
                    right = audiences_for(debate, worths, way, name, how)
                    told = fewest_pairs(debate, worths, way, name, how)
                    found = [[], [], [], [], [], []]
                    for pairs in subsets(all_pairs(worths)) if len(set(worths.values())) < 4 else []:
                        kept = kept_by_words(worths, pairs)
                        if kept and all(audience in right for audience in kept) and len(pairs) < 6:
                            found[len(pairs)].append(pairs)
                    if len(set(worths.values())) < 4:
                        self.assertEqual(told, next((rows for rows in found if rows), []))
                    self.assertEqual(told == [[]], right == audiences_by_words(worths))
                    self.assertEqual(told == [], right == [])
                    for pairs in told:
                        self.assertIsNone(pairs_fault(debate, worths, way, name, how, pairs))
                        self.assertLess(len(pairs), len(set(worths.values())))
                        self.assertEqual({type(pair) for pair in pairs} | {tuple}, {tuple})
                        sizes.add(len(pairs))
                    self.assertEqual(told, sorted(told))
        self.assertLessEqual({0, 1, 2}, sizes)

    def test_a_whole_audience(self):
        # Only one audience lets e come in: each of the others keeps some objection on the way.
        names = ["a", "b", "c", "d", "e"]
        debate = Debate(names, [("a", "b"), ("b", "c"), ("c", "d"), ("d", "e"), ("a", "e")])
        worths = {name: f"v{name}" for name in names}
        for name in names:
            for how in HOWS:
                told = fewest_pairs(debate, worths, "least", name, how)
                self.assertTrue(all(len(pairs) <= 4 for pairs in told))
                for pairs in told[::4]:
                    self.assertIsNone(pairs_fault(debate, worths, "least", name, how, pairs))

    def test_new_each_time(self):
        told = fewest_pairs(DEBATE, WORTHS, "least", "a", "all")
        told[0].clear()
        told.clear()
        self.assertEqual(fewest_pairs(DEBATE, WORTHS, "least", "a", "all"), [[("money", "life")]])


class TestNearest(Case):
    def test_exchanges(self):
        self.assertEqual(exchanges(THREE, VALUES, ["u", "v", "w"], ["w", "v", "u"]), 3)
        self.assertEqual(exchanges(other=("u", "v", "w"), one=["v", "u", "w"], worths=VALUES, debate=THREE), 1)
        self.assertEqual(exchanges(Debate([], []), {}, [], []), 0)
        names = list("abcd")
        worths = {name: "v" + name for name in names}
        audiences = all_audiences(Debate(names, []), worths)
        for one, other in itertools.product(audiences[::3], audiences):
            many = exchanges(Debate(names, []), worths, one, other)
            self.assertEqual(many, steps_by_words(one, other))
            turned = [pair for pair in itertools.combinations(one, 2) if other.index(pair[0]) > other.index(pair[1])]
            self.assertEqual(many, len(turned))

    def test_example(self):
        self.assertEqual(nearest(DEBATE, WORTHS, ["life", "money"], "least", "a", "all"), (1, [["money", "life"]]))
        self.assertEqual(nearest(how="all", statement="a", way="least", audience=("money", "life"), worths=WORTHS,
                                 debate=DEBATE), (0, [["money", "life"]]))
        self.assertIsNone(nearest(DEBATE, WORTHS, ["life", "money"], "calm", "a", "all"))

    def test_by_words(self):
        for turn, (debate, worths) in enumerate(worthy_debates()):
            way, how = (WAYS * 3)[turn % 18], (HOWS * 2)[turn % 5]
            for name in debate.statements():
                right = audiences_for(debate, worths, way, name, how)
                for audience in audiences_by_words(worths)[::3]:
                    told = nearest(debate, worths, audience, way, name, how)
                    if not right:
                        self.assertIsNone(told)
                        continue
                    steps = [steps_by_words(audience, other) for other in right]
                    best = [other for other, many in zip(right, steps) if many == min(steps)]
                    self.assertEqual(told, (min(steps), best))

    def test_at_the_limit(self):
        debate = drawn_debates(2, 8, 170)[1]
        worths = {name: f"v{at % 5}" for at, name in enumerate(debate.statements())}
        audience = all_audiences(debate, worths)[77]
        for name in debate.statements()[:3]:
            many = len(audiences_for(debate, worths, "greatest", name, "some"))
            told = nearest(debate, worths, audience, "greatest", name, "some")
            self.assertEqual(told is None, many == 0)
            pairs = fewest_pairs(debate, worths, "greatest", name, "some")
            self.assertEqual((pairs == [[]], pairs == []), (many == 120, many == 0))

    def test_bad_audiences(self):
        calls = [lambda thing: exchanges(THREE, VALUES, thing, 5),
                 lambda thing: exchanges(THREE, VALUES, ["u", "v", "w"], thing),
                 lambda thing: nearest(THREE, VALUES, thing, 5, 5, 5)]
        for call in calls:
            self.refuses_no_lists(BadAudience, call)
            for thing in any_objects() + ["v", "x", ["w"]]:
                self.refuses(BadAudience, {"index": 1}, call, ["v", thing, thing])
            for odd, index in (([], 0), (["v"], 1), (["v", "u", "w", "v"], 3)):
                self.refuses(BadAudience, {"index": index}, call, odd)
        for thing in any_objects():
            self.refuses(BadWorths, {"thing": thing}, exchanges, THREE, thing, 5, 5)
            self.refuses(BadWorths, {"thing": thing}, nearest, THREE, thing, 5, 5, 5, 5)
