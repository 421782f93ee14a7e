"""Points 64, 66 and 69: for which audiences statements stand, and which hear alike."""

import itertools

from objections.audiences import value_ring
from objections.debates import Debate
from objections.errors import BadAudience, BadHow, BadWay, BadWorths, NoStatement
from objections.forwhom import apart_at, audience_lots, audiences_for, counted_alike, possible_ones, sure_ones
from tests.helper import (
    HOWS, WAYS, Case, any_objects, audiences_by_words, drawn_debates, heard, least_by_words, lots_by_words, not_lists,
    not_statements, not_words, stands_by_words, worthy_debates,
)

DEBATE = Debate(["a", "b", "c"], [("a", "b"), ("b", "c"), ("c", "a")])
WORTHS = {"a": "life", "b": "money", "c": "life"}
AUDIENCES = [["life", "money"], ["money", "life"]]


def audiences_by_standing(debate, worths, way, statement, how):
    return [
        audience for audience in audiences_by_words(worths)
        if stands_by_words(heard(debate, worths, audience), way, statement, how)
    ]


class TestAudiencesFor(Case):
    def test_example(self):
        self.assertEqual(sure_ones(DEBATE, WORTHS, "least", "all"), ["b"])
        self.assertEqual(possible_ones(DEBATE, WORTHS, "least", "all"), ["a", "b", "c"])
        self.assertEqual(audiences_for(DEBATE, WORTHS, "least", "a", "all"), [["money", "life"]])
        self.assertEqual(audiences_for(how="none", statement="a", way="least", worths=WORTHS, debate=DEBATE),
                         [["life", "money"]])
        self.assertEqual(sure_ones(how="all", way="least", worths=WORTHS, debate=DEBATE), ["b"])
        self.assertEqual(possible_ones(how="none", way="least", worths=WORTHS, debate=DEBATE), ["a", "c"])

    def test_by_words(self):
        for turn, (debate, worths) in enumerate(worthy_debates()):
            audiences = audiences_by_words(worths)
            for way, how in list(itertools.product(WAYS, HOWS))[turn % 4::4]:
                found = {name: audiences_by_standing(debate, worths, way, name, how) for name in debate.statements()}
                for name in found:
                    self.assertEqual(audiences_for(debate, worths, way, name, how), found[name])
                sure = [name for name in found if found[name] == audiences]
                self.assertEqual(sure_ones(debate, worths, way, how), sure)
                self.assertEqual(possible_ones(debate, worths, way, how), [name for name in found if found[name]])

    def test_facts(self):
        for debate, worths in worthy_debates():
            for call in (sure_ones, possible_ones):
                self.assertEqual(call(debate, worths, "least", "all"), call(debate, worths, "whole", "all"))
                if value_ring(debate, worths) is None:
                    right = call(debate, worths, "least", "all")
                    for way, how in itertools.product(("whole", "least", "greatest", "settled"), ("some", "all")):
                        self.assertEqual(call(debate, worths, way, how), right)

    def test_nothing(self):
        for way, how in itertools.product(WAYS, HOWS):
            self.assertEqual(sure_ones(Debate([], []), {}, way, how), [])
            self.assertEqual(possible_ones(Debate([], []), {}, way, how), [])
        self.assertEqual(counted_alike(Debate([], []), {}), [[[]]])
        self.assertEqual(audience_lots(Debate([], []), {}), [([], [[]])])
        self.assertIsNone(apart_at(Debate([], []), {}, [], ()))

    def test_at_the_limit(self):
        debate = drawn_debates(3, 8, 160)[2]
        worths = {name: f"v{at % 5}" for at, name in enumerate(debate.statements())}
        for way, how in (("greatest", "some"), ("settled", "all"), ("calm", "none")):
            sure, possible = sure_ones(debate, worths, way, how), possible_ones(debate, worths, way, how)
            self.assertLessEqual(set(sure), set(possible))
            for name in debate.statements():
                many = len(audiences_for(debate, worths, way, name, how))
                self.assertEqual((many == 120, many > 0), (name in sure, name in possible))

    def test_new_each_time(self):
        told = audiences_for(DEBATE, WORTHS, "least", "b", "all")
        told[0].clear()
        told.clear()
        self.assertEqual(audiences_for(DEBATE, WORTHS, "least", "b", "all"), AUDIENCES)

    def test_errors(self):
        for call in (audiences_for, lambda debate, worths, way, _, how: sure_ones(debate, worths, way, how),
                     lambda debate, worths, way, _, how: possible_ones(debate, worths, way, how)):
            for thing in any_objects() + [WORTHS | {"a": 5}, WORTHS | {"d": "life"}]:
                self.refuses(BadWorths, {"thing": thing}, call, DEBATE, thing, 5, 5, 5)
            for thing in not_words(WAYS) + ["tops"]:
                self.refuses(BadWay, {"thing": thing}, call, DEBATE, WORTHS, thing, 5, 5)
            for thing in not_words(HOWS):
                self.refuses(BadHow, {"thing": thing}, call, DEBATE, WORTHS, "settled", "a", thing)
        for thing in not_statements(DEBATE) + ["d", ["a"]]:
            self.refuses(NoStatement, {"thing": thing}, audiences_for, DEBATE, WORTHS, "whole", thing, 5)


class TestAlike(Case):
    def test_example(self):
        self.assertEqual(counted_alike(worths=WORTHS, debate=DEBATE), [[AUDIENCES[0]], [AUDIENCES[1]]])
        self.assertEqual(audience_lots(worths=WORTHS, debate=DEBATE), [
            (["a", "b"], [["money", "life"]]), (["b", "c"], [["life", "money"]])])
        self.assertEqual(apart_at(other=AUDIENCES[0], one=AUDIENCES[1], worths=WORTHS, debate=DEBATE), "a")
        self.assertEqual(apart_at(DEBATE, WORTHS, tuple(AUDIENCES[0]), AUDIENCES[1]), "a")

    def test_counted_alike(self):
        for debate, worths in worthy_debates():
            audiences = audiences_by_words(worths)
            told = counted_alike(debate, worths)
            groups = []
            for audience in audiences:
                pairs = heard(debate, worths, audience).objections()
                for group in groups:
                    if heard(debate, worths, group[0]).objections() == pairs:
                        group.append(audience)
                        break
                else:
                    groups.append([audience])
            self.assertEqual(told, groups)
            # Two are together just if they set in one order each two values with an objection between.
            met = [(worths[one], worths[other]) for one, other in debate.objections() if worths[one] != worths[other]]
            for one, other in itertools.product(audiences, repeat=2):
                alike = all(
                    (one.index(above) < one.index(below)) == (other.index(above) < other.index(below))
                    for above, below in met
                )
                self.assertEqual(any(one in group and other in group for group in told), alike)

    def test_audience_lots(self):
        apart = 0
        for debate, worths in worthy_debates():
            audiences = audiences_by_words(worths)
            lots = {str(audience): lots_by_words(heard(debate, worths, audience), "least")[0] for audience in audiences}
            told = audience_lots(debate, worths)
            right = [
                (list(lot), [audience for audience in audiences if lots[str(audience)] == list(lot)])
                for lot in sorted({tuple(lot) for lot in lots.values()})
            ]
            self.assertEqual(told, right)
            self.assertEqual({(type(row), type(row[0]), type(row[1])) for row in told}, {(tuple, list, list)})
            for group in counted_alike(debate, worths):
                self.assertTrue(any(all(one in found for one in group) for _, found in told))
            apart += len(counted_alike(debate, worths)) > len(told)
        self.assertGreater(apart, 0)

    def test_apart_at(self):
        for debate, worths in worthy_debates():
            audiences = audiences_by_words(worths)
            for one, other in list(itertools.product(audiences, repeat=2))[::3]:
                labels = least_by_words(heard(debate, worths, one))
                others = least_by_words(heard(debate, worths, other))
                right = [name for name in debate.statements() if labels[name] != others[name]]
                self.assertEqual(apart_at(debate, worths, one, other), right[0] if right else None)

    def test_new_each_time(self):
        told = counted_alike(DEBATE, WORTHS)
        told[0][0].clear()
        told[0].clear()
        self.assertEqual(counted_alike(DEBATE, WORTHS), [[AUDIENCES[0]], [AUDIENCES[1]]])
        audience_lots(DEBATE, WORTHS)[0][1].clear()
        self.assertEqual(len(audience_lots(DEBATE, WORTHS)[0][1]), 1)

    def test_errors(self):
        for call in (audience_lots, counted_alike, lambda debate, worths: apart_at(debate, worths, 5, 5)):
            for thing in any_objects() + [WORTHS | {"a": 5}, WORTHS | {"d": "life"}]:
                self.refuses(BadWorths, {"thing": thing}, call, DEBATE, thing)
        good = AUDIENCES[0]
        for thing in not_lists():
            self.refuses(BadAudience, {"index": 0}, apart_at, DEBATE, WORTHS, thing, 5)
            self.refuses(BadAudience, {"index": 0}, apart_at, DEBATE, WORTHS, good, thing)
        for thing in any_objects() + ["money", ["life"]]:
            self.refuses(BadAudience, {"index": 1}, apart_at, DEBATE, WORTHS, ["money", thing], 5)
            self.refuses(BadAudience, {"index": 1}, apart_at, DEBATE, WORTHS, good, ["money", thing])
        for odd, index in (([], 0), (["money"], 1), (["money", "life", "life"], 2)):
            self.refuses(BadAudience, {"index": index}, apart_at, DEBATE, WORTHS, odd, 5)
            self.refuses(BadAudience, {"index": index}, apart_at, DEBATE, WORTHS, good, odd)
