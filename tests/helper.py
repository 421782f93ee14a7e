"""What the tests share: many small debates, odd objects, and the words of the document, done step by step.

Nothing here calls the package but to make debates and to read their two lists.
"""

import itertools
import random
import unittest

from objections.debates import Debate
from objections.errors import BadLot, DebateError
from objections.groups import Grouped
from objections.halls import Hall
from objections.pieces import Piece
from objections.rules import Rules
from objections.tables import Tabled
from objections.unsure import Unsure

WAYS = ["calm", "held", "whole", "least", "greatest", "settled"]
HOWS = ["some", "all", "none"]
LABELS = ["in", "out", "undecided"]


class Case(unittest.TestCase):
    """A test case that also tells of errors."""

    def refuses(self, kind, kept, call, *given, **named):
        """Whether a call raises just this error, which keeps just these things: the very ones under "thing"."""
        with self.assertRaises(kind) as caught:
            call(*given, **named)
        self.assertIs(type(caught.exception), kind)
        self.assertEqual(list(vars(caught.exception)), list(kept))
        for name, value in kept.items():
            told = getattr(caught.exception, name)
            if name == "thing":
                self.assertIs(told, value)
            else:
                self.assertEqual(told, value)
                self.assertIs(type(told), type(value))

    def refuses_no_lists(self, kind, call, *given):
        """Whether a call raises such an error with index 0 for what is no list, put behind the others."""
        for thing in not_lists():
            self.refuses(kind, {"index": 0}, call, *given, thing)


def ignored(*_):
    """A function as an odd object."""


def any_objects():
    """Objects of all kinds that may be passed."""
    return [
        0, 1, -7, 10 ** 40, True, False, None, "", "a", "ab", "A", "zz9", [], (), {}, [[]], [["a"]], ["a", "a"],
        [None], [True], [1], [[], []], ("none",), {"a": "b"}, {1: 2}, {("a", "b"): []}, {None: None}, ignored, len,
        Debate([], []), Debate(["a"], [("a", "a")]), Piece(["a"], ["g"], [("g", "a")], ["a"]), BadLot(0), DebateError(),
        Grouped(["a"], [([], "a")], []), Tabled([("a", [], [])]), Unsure(Debate(["a"], []), ["a"], []),
        Rules(["a"], [("a", [], [])]), Hall(),
    ]


def not_lists():
    """Those of them that are neither lists nor tuples."""
    return [thing for thing in any_objects() if not isinstance(thing, (list, tuple))]


def not_functions():
    """Those of them that are no functions."""
    return [thing for thing in any_objects() if thing is not ignored and thing is not len]


def not_pieces():
    """Those of them that are no pieces, and what a piece looks like."""
    return [thing for thing in any_objects() if not isinstance(thing, Piece)] + [([], [], [], [])]


def not_words(words):
    """Those of them that are none of some words, and what nearly is one."""
    odd = [thing for thing in any_objects() if not (isinstance(thing, str) and thing in words)]
    return odd + [[words[0]], words[0].upper(), words[0] + " "]


def not_numbers():
    """Those of them that are no integers from 0 on."""
    return [thing for thing in any_objects() if type(thing) is not int or thing < 0]


def not_statements(debate):
    """Those of them that are no statements of a debate."""
    return [thing for thing in any_objects() if not (isinstance(thing, str) and thing in debate.statements())]


def subsets(things):
    """All sublists, as they compare."""
    return sorted(
        list(lot) for many in range(len(things) + 1) for lot in itertools.combinations(things, many)
    )


def label_rows(many, labels=None):
    """All rows of so many labels, ascending."""
    return list(itertools.product(labels or LABELS, repeat=many))


def truth_rows(many):
    """All rows of so many truths, ascending."""
    return list(itertools.product([False, True], repeat=many))


def drawn_pieces(many, size, ins, outs, seed, prefix=""):
    """So many pieces of at most a size, with at most so many gates, drawn alike each time."""
    draw = random.Random(seed)
    found = []
    for _ in range(many):
        statements = [f"{prefix}s{at}" for at in range(draw.randint(0, size))]
        gates = [f"{prefix}g{at}" for at in range(draw.randint(0, ins))]
        share = draw.choice([0.2, 0.35, 0.5])
        pairs = [(one, other) for one in statements + gates for other in statements if draw.random() < share]
        draw.shuffle(gates)
        exits = draw.sample(statements, min(len(statements), draw.randint(0, outs)))
        found.append(Piece(draw.sample(statements, len(statements)), gates, pairs, exits))
    return found


def piece_labels(piece, row):
    """All labels of a piece's statements if gates in have those of a row, straight from the words."""
    statements, ins, objections, _ = piece.parts()
    gates = dict(zip(ins, row))
    found = []
    for labels in label_rows(len(statements)):
        known = dict(zip(statements, labels), **gates)
        told = {name: [known[one] for one, other in objections if other == name] for name in statements}
        if all(
            known[name] == ("in" if set(told[name]) <= {"out"} else "out" if "in" in told[name] else "undecided")
            for name in statements
        ):
            found.append(known)
    return found


def table_by_words(piece, way):
    """The table of a piece, straight from the words."""
    _, ins, _, outs = piece.parts()
    table = {}
    for row in label_rows(len(ins), LABELS[:2] if way == "settled" else LABELS):
        found = piece_labels(piece, row)
        if way == "least":
            found = [
                labels for labels in found
                if all(other[name] == labels[name] for other in found for name in labels if labels[name] != "undecided")
            ]
        if way == "settled":
            found = [labels for labels in found if "undecided" not in labels.values()]
        table[row] = sorted({tuple(labels[name] for name in outs) for labels in found})
    return table


def group_label(grouped, labels, statement):
    """The label that a statement gets by groups and needs, straight from the words."""
    _, objections, needs = grouped.parts()
    groups = [[labels[name] for name in group] for group, other in objections if other == statement]
    needed = [labels[other] for one, other in needs if one == statement]
    if all("out" in group for group in groups) and all(label == "in" for label in needed):
        return "in"
    if any(all(label == "in" for label in group) for group in groups) or "out" in needed:
        return "out"
    return "undecided"


def table_label(tabled, labels, statement):
    """The label that a statement gets by its table, straight from the words."""
    parents, rows = [(parents, rows) for name, parents, rows in tabled.tables() if name == statement][0]
    choices = {"in": [True], "out": [False], "undecided": [True, False]}
    fillings = list(itertools.product(*[choices[labels[parent]] for parent in parents]))
    if all(filling in rows for filling in fillings):
        return "in"
    return "undecided" if any(filling in rows for filling in fillings) else "out"


def rule_labellings(names, label_for, way):
    """The labellings of a way by a rule, as the lists of their labels compare, straight from the words."""
    found = []
    for row in label_rows(len(names)):
        labels = dict(zip(names, row))
        if all(labels[name] == label_for(labels, name) for name in names):
            found.append(labels)
    if way == "settled":
        return [labels for labels in found if "undecided" not in labels.values()]
    if way == "greatest":
        return [labels for labels in found if not any(labels != other and has_all(other, labels) for other in found)]
    if way == "least":
        labels = {name: "undecided" for name in names}
        for _ in names:
            labels = {name: label_for(labels, name) for name in names}
        return [labels]
    return found


def has_all(labels, others):
    """Whether labels have all that others have in or out."""
    return all(labels[name] == label for name, label in others.items() if label != "undecided")


def drawn_groups(many, size, groups, needs, seed):
    """So many statements with groups and needs, drawn alike each time."""
    draw = random.Random(seed)
    found = []
    for _ in range(many):
        names = [f"s{at}" for at in range(draw.randint(1, size))]
        rows = []
        for _ in range(draw.randint(0, groups)):
            group = draw.sample(names, draw.choice([least for least in (0, 1, 1, 2, 2, 3, 4) if least <= len(names)]))
            other = draw.choice(names)
            if not any(set(group) == set(one) and other == two for one, two in rows):
                rows.append((tuple(group), other))
        pairs = list(itertools.product(names, repeat=2))
        found.append(Grouped(names, rows, draw.sample(pairs, min(len(pairs), draw.randint(0, needs)))))
    return found


def drawn_tables(many, size, parents, seed):
    """So many statements with tables, drawn alike each time."""
    draw = random.Random(seed)
    found = []
    for _ in range(many):
        names = [f"s{at}" for at in range(draw.randint(1, size))]
        tables = []
        for name in names:
            known = draw.sample(names, draw.randint(0, min(parents, len(names))))
            rows = truth_rows(len(known))
            tables.append((name, tuple(known), draw.sample(rows, draw.randint(0, len(rows)))))
        found.append(Tabled(tables))
    return found


def round_tables(rows):
    """Six statements, each with the next four ones as its parents, and with these rows."""
    names = list("abcdef")
    return Tabled([
        (name, tuple(names[(at + turn) % 6] for turn in range(4)), rows) for at, name in enumerate(names)
    ])


def plain_labels(debate, words, names):
    """The labellings of a debate that words stand for, made from the labels of names, straight from the words.

    All labels of names are gone through; each further statement has to get the label that it says, from its own
    objectors, and each name the label that it gets from its objectors then.
    """
    found = []
    for row in label_rows(len(names)):
        labels = dict(zip(names, row))
        labels.update({name: said_label(labels, word) for name, word in words.items()})
        if all(labels[name] == label_by_words(debate, labels, name) for name in labels):
            found.append(labels)
    return found


def plain_of_way(found, way):
    """Those of all labellings that are of a way, straight from the words."""
    if way == "settled":
        return [labels for labels in found if "undecided" not in labels.values()]
    ins = [{name for name in labels if labels[name] == "in"} for labels in found]
    if way == "least":
        return [labels for labels, lot in zip(found, ins) if all(lot <= other for other in ins)]
    return [labels for labels, lot in zip(found, ins) if not any(lot < other for other in ins)]


def said_label(labels, word):
    """The label of a further statement by what it says."""
    turned = {"in": "out", "out": "in", "undecided": "undecided"}
    if word[0] == "not":
        return turned[labels[word[1]]]
    outs = word[2] if word[0] == "condition" else ()
    told = [labels[name] for name in word[1]] + [turned[labels[name]] for name in outs]
    if "out" in told:
        return "out"
    return "in" if all(label == "in" for label in told) else "undecided"


def drawn_worths(debate, many, seed):
    """Values of at most so many kinds for all statements, drawn alike each time."""
    draw = random.Random(seed)
    return {name: f"v{draw.randrange(many)}" for name in debate.statements()}


def worthy_debates():
    """Pairs of debates and worths, of at most four values."""
    found = [(Debate([], []), {})]
    for seed, debate in enumerate(tiny_debates()[1:]):
        for many in (1, 2):
            found.append((debate, drawn_worths(debate, many, seed)))
    for seed, debate in enumerate(drawn_debates(30, 3, 140) + drawn_debates(25, 4, 141) + drawn_debates(12, 5, 142)):
        found.append((debate, drawn_worths(debate, 2 + seed % 3, seed)))
    return found


def heard(debate, worths, audience):
    """The debate that an audience hears, straight from the words."""
    return Debate(debate.statements(), [
        (one, other) for one, other in debate.objections()
        if not audience.index(worths[other]) < audience.index(worths[one])
    ])


def audiences_by_words(worths):
    return sorted(list(row) for row in itertools.permutations(set(worths.values())))


def stands_by_words(debate, way, statement, how):
    lots = lots_by_words(debate, way)
    return {"some": any, "all": all, "none": lambda truths: not any(truths)}[how](
        [statement in lot for lot in lots])


def drawn_unsure(many, size, things, seed):
    """So many unsure debates, drawn alike each time."""
    draw = random.Random(seed)
    found = []
    for debate in drawn_debates(many, size, seed):
        names, pairs = debate.statements(), debate.objections()
        some = draw.randint(0, min(things, len(names)))
        found.append(Unsure(debate, draw.sample(names, some), draw.sample(pairs, min(len(pairs), things - some))))
    return found


def fillings_by_words(unsure):
    """All fillings: all statements but some of maybe, all objections between but some of perhaps."""
    full = unsure.full()
    found = []
    for gone in subsets(unsure.maybe()):
        names = [name for name in full.statements() if name not in gone]
        for lacking in subsets(unsure.perhaps()):
            pairs = [pair for pair in full.objections() if set(pair) <= set(names) and pair not in lacking]
            if (names, pairs) not in found:
                found.append((names, pairs))
    return [Debate(names, pairs) for names, pairs in sorted(found)]


def least_by_words(debate):
    """The labels by the least lot."""
    lot = lots_by_words(debate, "least")[0]
    return {name: "in" if name in lot else "out" if objects(debate, lot, name) else "undecided"
            for name in debate.statements()}


def all_debates(names):
    """Each debate with just these statements."""
    pairs = list(itertools.product(names, repeat=2))
    return [Debate(names, row) for row in subsets(pairs)]


def drawn_debates(many, size, seed):
    """So many debates of a size, drawn alike each time."""
    draw = random.Random(seed)
    names = ["a", "b", "c", "d", "e", "f", "g", "h", "i", "j", "k", "l"][:size]
    found = []
    for _ in range(many):
        share = draw.choice([1, 2, 3, 4]) / (size + 1)
        loops = draw.choice([0, 0, share / 2, share])
        pairs = [
            (one, other) for one in names for other in names
            if draw.random() < (loops if one == other else share)
        ]
        found.append(Debate(names, pairs))
    return found


def tiny_debates():
    """All debates of at most two statements."""
    return all_debates([]) + all_debates(["a"]) + all_debates(["a", "b"])


def small_debates():
    """All debates of at most three statements, and some of four and five."""
    return tiny_debates() + all_debates(["a", "b", "c"]) + drawn_debates(40, 4, 1) + drawn_debates(25, 5, 2)


def long_debate():
    """Forty statements, each objecting to the next one."""
    names = long_names()
    return Debate(names, [(names[at], names[at + 1]) for at in range(39)])


def long_names():
    """Forty names, ascending."""
    return [f"n{number:02d}" for number in range(40)]


def met(debate, statement):
    """Who objects to a statement."""
    return [one for one, other in debate.objections() if other == statement]


def objects(debate, lot, statement):
    """Whether some member objects to a statement."""
    return any((member, statement) in debate.objections() for member in lot)


def answers(debate, lot, statement):
    """Whether a lot answers a statement."""
    return all(objects(debate, lot, objector) for objector in met(debate, statement))


def calm(debate, lot):
    return not any(objects(debate, lot, member) for member in lot)


def held(debate, lot):
    return calm(debate, lot) and all(answers(debate, lot, member) for member in lot)


def whole(debate, lot):
    return held(debate, lot) and all(
        statement in lot for statement in debate.statements() if answers(debate, lot, statement)
    )


def settled(debate, lot):
    return calm(debate, lot) and all(
        statement in lot or objects(debate, lot, statement) for statement in debate.statements()
    )


def within(one, other):
    """Whether a lot lies in another one and is not it."""
    return set(one) < set(other)


def lots_by_words(debate, way):
    """All lots of a way, straight from its words."""
    lots = subsets(debate.statements())
    if way in ("least", "greatest"):
        base = [lot for lot in lots if (whole if way == "least" else held)(debate, lot)]
        if way == "least":
            return [lot for lot in base if all(set(lot) <= set(other) for other in base)]
        return [lot for lot in base if not any(within(lot, other) for other in base)]
    fits = {"calm": calm, "held": held, "whole": whole, "settled": settled}[way]
    return [lot for lot in lots if fits(debate, lot)]


def tops_by_words(debate):
    """The calm lots that lie in no other calm one."""
    lots = lots_by_words(debate, "calm")
    return [lot for lot in lots if not any(within(lot, other) for other in lots)]


def labellings_by_words(debate):
    """All labellings, straight from the words."""
    found = []
    for row in itertools.product(["in", "out", "undecided"], repeat=len(debate)):
        labels = dict(zip(debate.statements(), row))
        if all(labels[name] == label_by_words(debate, labels, name) for name in labels):
            found.append(labels)
    return found


def label_by_words(debate, labels, statement):
    told = [labels[objector] for objector in met(debate, statement)]
    if all(label == "out" for label in told):
        return "in"
    return "out" if "in" in told else "undecided"


def ranks_by_words(debate):
    """The ranks, rank by rank."""
    ranks = {}
    for rank in range(len(debate) + 1):
        new = [
            name for name in debate.statements() if name not in ranks and all(
                any(ranks.get(answer, rank) < rank for answer in met(debate, objector))
                for objector in met(debate, name)
            )
        ]
        ranks.update({name: rank for name in new})
    return dict(sorted(ranks.items()))


def is_doubt_by_words(debate, thing):
    return len(thing) > 0 and all(
        thing[member] in met(debate, member) and all(name in thing for name in met(debate, thing[member]))
        for member in thing
    )


def doubts_by_words(debate):
    """The lots of members of all doubts."""
    found = []
    for lot in subsets(debate.statements()):
        choices = [
            [objector for objector in met(debate, member) if set(met(debate, objector)) <= set(lot)] for member in lot
        ]
        if lot and all(choices):
            found.append(lot)
    return found


def is_ring(debate, ring):
    """Whether each of unlike statements objects to the next one, the last one to the first."""
    return len(ring) > 0 and len(set(ring)) == len(ring) and all(
        (ring[at - 1], ring[at]) in debate.objections() for at in range(len(ring))
    )


def rings_by_words(debate):
    """All rings, each by one of its turns."""
    found = []
    for many in range(1, len(debate) + 1):
        for row in itertools.permutations(debate.statements(), many):
            if row[0] == min(row) and is_ring(debate, row):
                found.append(list(row))
    return found


def cut(debate, lot):
    """The debate of a lot alone."""
    return Debate(lot, [(one, other) for one, other in debate.objections() if one in lot and other in lot])


def families(names, many=None):
    """All families of lots of these names, or the first so many of them."""
    return list(itertools.islice(iter(subsets(subsets(names))), many))


def ascending(thing):
    """Whether a dict's keys ascend."""
    return list(thing) == sorted(thing)
