"""Points 27 and 31: parts, and what is made part by part."""

import itertools
import random
import unittest

from objections.debates import Debate
from objections.errors import BadHow, BadWay, NoStatement
from objections.labels import stands
from objections.lots import lots_of
from objections.parts import labels_by_parts, lots_by_parts, parts_of, stands_by_parts
from tests.helper import (
    HOWS, any_objects, ascending, drawn_debates, labellings_by_words, long_debate, long_names, met, not_statements,
    small_debates,
)

EXAMPLE = Debate(["a", "b", "c"], [("a", "b"), ("b", "a"), ("b", "c"), ("c", "c")])
PART_WAYS = ["whole", "least", "greatest", "settled"]


def reached_by_words(debate):
    """For each statement all to which objections lead from it, one behind another, and itself."""
    reached = {name: {name} for name in debate.statements()}
    grown = True
    while grown:
        grown = False
        for one, other in debate.objections():
            for start in reached:
                if one in reached[start] and other not in reached[start]:
                    reached[start].add(other)
                    grown = True
    return reached


def parts_by_words(debate):
    names = debate.statements()
    waiting = []
    reached = reached_by_words(debate)
    mets = {name: met(debate, name) for name in names}
    for name in names:
        part = [other for other in names if other in reached[name] and name in reached[other]]
        if part not in waiting:
            waiting.append(part)
    parts = []
    while waiting:
        ahead = [name for part in parts for name in part]
        free = [
            part for part in waiting
            if all(one in ahead + part for name in part for one in mets[name])
        ]
        parts.append(min(free))
        waiting.remove(min(free))
    return parts


def many_pairs(many, loop=False):
    """Pairs of statements that object to one another, and a long tail behind them that they decide."""
    names = long_names()
    pairs = []
    for at in range(0, 2 * many, 2):
        pairs += [(names[at], names[at + 1]), (names[at + 1], names[at])]
    tail = names[2 * many:]
    pairs += [(names[0], tail[0])] + list(zip(tail, tail[1:]))
    return Debate(names, pairs + ([(tail[0], tail[0])] if loop else []))


class TestParts(unittest.TestCase):
    def test_example(self):
        self.assertEqual(parts_of(EXAMPLE), [["a", "b"], ["c"]])

    def test_over_small_debates(self):
        for debate in small_debates() + drawn_debates(60, 8, 13):
            self.assertEqual(parts_of(debate), parts_by_words(debate))

    def test_order(self):
        debate = Debate(["a", "b", "c", "d"], [("d", "a"), ("c", "b")])
        self.assertEqual(parts_of(debate), [["c"], ["b"], ["d"], ["a"]])
        self.assertEqual(parts_of(Debate([], [])), [])
        self.assertEqual(parts_of(debate=Debate(["b", "a"], [("a", "a")])), [["a"], ["b"]])

    def test_forty_statements(self):
        names = long_names()
        self.assertEqual(parts_of(long_debate()), [[name] for name in names])
        turned = Debate(names, [(other, one) for one, other in long_debate().objections()])
        self.assertEqual(parts_of(turned), [[name] for name in names[::-1]])
        ring = Debate(names, long_debate().objections() + [("n39", "n00")])
        self.assertEqual(parts_of(ring), [names])
        parts_of(ring)[0].clear()
        self.assertEqual(parts_of(ring), [names])


class TestByParts(unittest.TestCase):
    def test_they_tell_the_same(self):
        for debate in small_debates() + drawn_debates(60, 7, 14):
            for way in PART_WAYS:
                self.assertEqual(lots_by_parts(debate, way), lots_of(debate, way))
            if len(debate) < 5:
                told = labels_by_parts(debate)
                right = labellings_by_words(debate)
                self.assertEqual(told, sorted(right, key=lambda labels: [n for n in labels if labels[n] == "in"]))
                self.assertTrue(all(ascending(labels) for labels in told))

    def test_stands(self):
        for debate in small_debates()[::4] + drawn_debates(20, 6, 15):
            for way in PART_WAYS:
                for how in HOWS:
                    for name in debate.statements():
                        self.assertIs(stands_by_parts(debate, way, name, how), stands(debate, way, name, how))

    def test_many_small_parts(self):
        debate = many_pairs(5)
        self.assertEqual(len(labels_by_parts(debate)), 3 ** 5)
        self.assertEqual(len(lots_by_parts(debate, "whole")), 3 ** 5)
        self.assertEqual(len(lots_by_parts(debate, "greatest")), 2 ** 5)
        self.assertEqual(lots_by_parts(debate, "settled"), lots_by_parts(debate, "greatest"))
        self.assertEqual(lots_by_parts(debate, "least"), [[]])
        self.assertTrue(stands_by_parts(debate, "greatest", "n10", "some"))
        self.assertFalse(stands_by_parts(debate, "greatest", "n10", "all"))
        loop = many_pairs(5, loop=True)
        self.assertEqual(len(lots_by_parts(loop, "settled")), 2 ** 4)
        self.assertEqual(len(lots_by_parts(loop, "greatest")), 2 ** 5)

    def test_parts_of_eight(self):
        names = long_names()
        pairs = []
        for at in range(0, 40, 8):
            block = names[at:at + 8]
            pairs += [(block[turn - 1], block[turn]) for turn in range(8)]
            if at:
                pairs.append((names[at - 1], names[at]))
        debate = Debate(names, pairs)
        self.assertEqual(parts_of(debate), [names[at:at + 8] for at in range(0, 40, 8)])
        lots = lots_by_parts(debate, "whole")
        self.assertTrue(5 < len(lots) <= 300)
        self.assertIn(lots_by_parts(debate, "least")[0], lots)
        for way in ("settled", "greatest"):
            self.assertTrue(all(lot in lots for lot in lots_by_parts(debate, way)))

    def test_chain_of_forty(self):
        names = long_names()
        for way in PART_WAYS:
            self.assertEqual(lots_by_parts(long_debate(), way), [names[::2]])
        labels = {name: "out" if at & 1 else "in" for at, name in enumerate(names)}
        self.assertEqual(labels_by_parts(debate=long_debate()), [labels])
        self.assertTrue(stands_by_parts(how="all", statement="n38", way="least", debate=long_debate()))

    def test_no_statements_and_new_each_time(self):
        debate = Debate([], [])
        self.assertEqual(labels_by_parts(debate), [{}])
        self.assertEqual([lots_by_parts(way=way, debate=debate) for way in PART_WAYS], [[[]]] * 4)
        labels_by_parts(EXAMPLE)[0].clear()
        lots_by_parts(EXAMPLE, "whole")[1].clear()
        self.assertEqual(len(labels_by_parts(EXAMPLE)[0]), 3)
        self.assertEqual(lots_by_parts(EXAMPLE, "whole"), [[], ["a"], ["b"]])

    def test_errors_in_their_order(self):
        for thing in any_objects() + ["calm", "held"]:
            for ask in (lambda way: lots_by_parts(EXAMPLE, way), lambda way: stands_by_parts(EXAMPLE, way, 1, 2)):
                with self.assertRaises(BadWay) as caught:
                    ask(thing)
                self.assertIs(caught.exception.thing, thing)
            if thing not in ("calm", "held"):
                with self.assertRaises(BadHow) as caught:
                    stands_by_parts(EXAMPLE, "whole", "a", thing)
                self.assertIs(caught.exception.thing, thing)
        for thing in not_statements(EXAMPLE):
            with self.assertRaises(NoStatement) as caught:
                stands_by_parts(EXAMPLE, "whole", thing, None)
            self.assertIs(caught.exception.thing, thing)


def great_debates(many, least, most, seed):
    """Drawn debates of rows of small parts, each objected to by members of some ahead, names in any order."""
    draw = random.Random(seed)
    found = []
    while len(found) < many:
        size = draw.randint(least, most)
        names = [f"s{at}" for at in range(size)]
        draw.shuffle(names)
        pairs, done = set(), []
        while len(done) < size:
            part = names[len(done):len(done) + draw.choice([1, 1, 1, 2, 2, 3, 4, 8])]
            if len(part) > 1:
                pairs |= {(part[at - 1], part[at]) for at in range(len(part))}
                pairs |= {pair for pair in itertools.product(part, repeat=2) if draw.random() < 0.2}
            elif draw.random() < 0.15:
                pairs.add((part[0], part[0]))
            for name in part:
                pairs |= {(one, name) for one in draw.sample(done, min(len(done), draw.choice([0, 0, 1, 1, 2])))}
            done += part
        debate = Debate(names, sorted(pairs))
        if len(labels_by_parts(debate)) <= 300:
            found.append(debate)
    return found


def lots_by_all(debate):
    """The whole, least, greatest and settled lots, by going through all lots as masks."""
    names = debate.statements()
    hits = [sum(1 << at for at, name in enumerate(names) if (one, name) in debate.objections()) for one in names]
    mets = [sum(1 << at for at, name in enumerate(names) if (name, one) in debate.objections()) for one in names]
    hit = [0]
    for mask in range(1, 1 << len(names)):
        last = mask.bit_length() - 1
        hit.append(hit[mask ^ (1 << last)] | hits[last])
    whole = [
        mask for mask in range(1 << len(names)) if not hit[mask] & mask
        and all((met & ~hit[mask] == 0) == bool(mask >> at & 1) for at, met in enumerate(mets))
    ]
    found = {"whole": whole, "least": [one for one in whole if all(one & other == one for other in whole)]}
    found["greatest"] = [one for one in whole if not any(one != other and one & other == one for other in whole)]
    found["settled"] = [one for one in whole if one | hit[one] == (1 << len(names)) - 1]
    return {
        way: sorted([name for at, name in enumerate(names) if mask >> at & 1] for mask in masks)
        for way, masks in found.items()
    }


class TestGreatDebates(unittest.TestCase):
    def test_thirteen_and_fourteen_statements(self):
        for debate in great_debates(25, 13, 14, 16):
            right = lots_by_all(debate)
            self.assertEqual({way: lots_by_parts(debate, way) for way in PART_WAYS}, right)
            self.check_labels(debate, right["whole"])
            for way, name in itertools.product(PART_WAYS, debate.statements()[::4]):
                self.check_stands(debate, way, name, right[way])

    def test_up_to_forty_statements(self):
        many = 0
        for debate in great_debates(40, 15, 40, 17):
            self.assertEqual(parts_of(debate), parts_by_words(debate))
            lots = {way: lots_by_parts(debate, way) for way in PART_WAYS}
            self.check_labels(debate, lots["whole"])
            self.assertEqual(lots["whole"], sorted(lots["whole"]))
            self.assertEqual(len({tuple(lot) for lot in lots["whole"]}), len(lots["whole"]))
            for way in PART_WAYS[1:]:
                self.assertEqual(lots[way], [lot for lot in lots["whole"] if lot in lots[way]])
            for way, name in itertools.product(PART_WAYS, debate.statements()[::5]):
                self.check_stands(debate, way, name, lots[way])
            many = max(many, len(lots["whole"]))
        self.assertGreater(many, 50)

    def check_labels(self, debate, lots):
        told = labels_by_parts(debate)
        self.assertEqual([[name for name in labels if labels[name] == "in"] for labels in told], lots)
        mets = {name: met(debate, name) for name in debate.statements()}
        for labels in told:
            self.assertEqual(list(labels), debate.statements())
            for name, objectors in mets.items():
                found = [labels[one] for one in objectors]
                right = "undecided" if "undecided" in found else "in"
                self.assertEqual(labels[name], "out" if "in" in found else right)

    def check_stands(self, debate, way, name, lots):
        truths = [name in lot for lot in lots]
        told = [stands_by_parts(debate, way, name, how) for how in HOWS]
        self.assertEqual(told, [any(truths), all(truths), not any(truths)])

    def test_inputs_that_took_long(self):
        names = [f"a{at}" for at in range(40)]
        pairs = [(names[at], names[at ^ 1]) for at in range(10)]
        debate = Debate(names, pairs + list(zip(names[10:], names[11:])))
        told = labels_by_parts(debate)
        self.assertEqual(len(told), 243)
        self.check_labels(debate, lots_by_parts(debate, "whole"))
        self.assertIs(stands_by_parts(debate, "whole", "a30", "all"), True)
        self.assertIs(stands_by_parts(debate, "whole", "a31", "some"), False)
        chain = Debate(names, list(zip(names, names[1:])))
        self.assertEqual(parts_of(chain), [[name] for name in names])

    def test_told_labels_stand_by_themselves(self):
        debate = Debate(["a", "b", "c"], [("a", "b"), ("b", "a")])
        one, other, third = labels_by_parts(debate)
        one.clear()
        other["c"] = "out"
        self.assertEqual((list(third), third["c"]), (["a", "b", "c"], "in"))
        self.assertEqual([labels["c"] for labels in labels_by_parts(debate)], ["in"] * 3)
