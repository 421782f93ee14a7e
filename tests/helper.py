"""What the tests share: many small debates, odd objects, and the words of the document, done step by step.

Nothing here calls the package but to make debates and to read their two lists.
"""

import itertools
import random

from objections.debates import Debate
from objections.errors import BadLot, DebateError
from objections.pieces import Piece

WAYS = ["calm", "held", "whole", "least", "greatest", "settled"]
HOWS = ["some", "all", "none"]


def ignored(*_):
    """A function as an odd object."""


def any_objects():
    """Objects of all kinds that may be passed."""
    return [
        0, 1, -7, 10 ** 40, True, False, None, "", "a", "ab", "A", "zz9", [], (), {}, [[]], [["a"]], ["a", "a"],
        [None], [True], [1], [[], []], ("none",), {"a": "b"}, {1: 2}, {("a", "b"): []}, {None: None}, ignored, len,
        Debate([], []), Debate(["a"], [("a", "a")]), Piece(["a"], ["g"], [("g", "a")], ["a"]), BadLot(0), DebateError(),
    ]


def not_lists():
    """Those of them that are neither lists nor tuples."""
    return [thing for thing in any_objects() if not isinstance(thing, (list, tuple))]


def not_functions():
    """Those of them that are no functions."""
    return [thing for thing in any_objects() if thing is not ignored and thing is not len]


def not_statements(debate):
    """Those of them that are no statements of a debate."""
    return [thing for thing in any_objects() if not (isinstance(thing, str) and thing in debate.statements())]


def subsets(things):
    """All sublists, as they compare."""
    return sorted(
        list(lot) for many in range(len(things) + 1) for lot in itertools.combinations(things, many)
    )


def all_debates(names):
    """Each debate with just these statements."""
    pairs = list(itertools.product(names, repeat=2))
    return [Debate(names, row) for row in subsets(pairs)]


def drawn_debates(many, size, seed):
    """So many debates of a size, drawn alike each time."""
    draw = random.Random(seed)
    names = ["a", "b", "c", "d", "e", "f", "g", "h", "i", "j", "k", "l"][:size]
    found = []
    for _ in range(many):
        share = draw.choice([1, 2, 3, 4]) / (size + 1)
        loops = draw.choice([0, 0, share / 2, share])
        pairs = [
            (one, other) for one in names for other in names
            if draw.random() < (loops if one == other else share)
        ]
        found.append(Debate(names, pairs))
    return found


def tiny_debates():
    """All debates of at most two statements."""
    return all_debates([]) + all_debates(["a"]) + all_debates(["a", "b"])


def small_debates():
    """All debates of at most three statements, and some of four and five."""
    return tiny_debates() + all_debates(["a", "b", "c"]) + drawn_debates(40, 4, 1) + drawn_debates(25, 5, 2)


def long_debate():
    """Forty statements, each objecting to the next one."""
    names = long_names()
    return Debate(names, [(names[at], names[at + 1]) for at in range(39)])


def long_names():
    """Forty names, ascending."""
    return [f"n{number:02d}" for number in range(40)]


def met(debate, statement):
    """Who objects to a statement."""
    return [one for one, other in debate.objections() if other == statement]


def objects(debate, lot, statement):
    """Whether some member objects to a statement."""
    return any((member, statement) in debate.objections() for member in lot)


def answers(debate, lot, statement):
    """Whether a lot answers a statement."""
    return all(objects(debate, lot, objector) for objector in met(debate, statement))


def calm(debate, lot):
    return not any(objects(debate, lot, member) for member in lot)


def held(debate, lot):
    return calm(debate, lot) and all(answers(debate, lot, member) for member in lot)


def whole(debate, lot):
    return held(debate, lot) and all(
        statement in lot for statement in debate.statements() if answers(debate, lot, statement)
    )


def settled(debate, lot):
    return calm(debate, lot) and all(
        statement in lot or objects(debate, lot, statement) for statement in debate.statements()
    )


def within(one, other):
    """Whether a lot lies in another one and is not it."""
    return set(one) < set(other)


def lots_by_words(debate, way):
    """All lots of a way, straight from its words."""
    lots = subsets(debate.statements())
    if way in ("least", "greatest"):
        base = [lot for lot in lots if (whole if way == "least" else held)(debate, lot)]
        if way == "least":
            return [lot for lot in base if all(set(lot) <= set(other) for other in base)]
        return [lot for lot in base if not any(within(lot, other) for other in base)]
    fits = {"calm": calm, "held": held, "whole": whole, "settled": settled}[way]
    return [lot for lot in lots if fits(debate, lot)]


def tops_by_words(debate):
    """The calm lots that lie in no other calm one."""
    lots = lots_by_words(debate, "calm")
    return [lot for lot in lots if not any(within(lot, other) for other in lots)]


def labellings_by_words(debate):
    """All labellings, straight from the words."""
    found = []
    for row in itertools.product(["in", "out", "undecided"], repeat=len(debate)):
        labels = dict(zip(debate.statements(), row))
        if all(labels[name] == label_by_words(debate, labels, name) for name in labels):
            found.append(labels)
    return found


def label_by_words(debate, labels, statement):
    told = [labels[objector] for objector in met(debate, statement)]
    if all(label == "out" for label in told):
        return "in"
    return "out" if "in" in told else "undecided"


def ranks_by_words(debate):
    """The ranks, rank by rank."""
    ranks = {}
    for rank in range(len(debate) + 1):
        new = [
            name for name in debate.statements() if name not in ranks and all(
                any(ranks.get(answer, rank) < rank for answer in met(debate, objector))
                for objector in met(debate, name)
            )
        ]
        ranks.update({name: rank for name in new})
    return dict(sorted(ranks.items()))


def is_doubt_by_words(debate, thing):
    return len(thing) > 0 and all(
        thing[member] in met(debate, member) and all(name in thing for name in met(debate, thing[member]))
        for member in thing
    )


def doubts_by_words(debate):
    """The lots of members of all doubts."""
    found = []
    for lot in subsets(debate.statements()):
        choices = [
            [objector for objector in met(debate, member) if set(met(debate, objector)) <= set(lot)] for member in lot
        ]
        if lot and all(choices):
            found.append(lot)
    return found


def is_ring(debate, ring):
    """Whether each of unlike statements objects to the next one, the last one to the first."""
    return len(ring) > 0 and len(set(ring)) == len(ring) and all(
        (ring[at - 1], ring[at]) in debate.objections() for at in range(len(ring))
    )


def rings_by_words(debate):
    """All rings, each by one of its turns."""
    found = []
    for many in range(1, len(debate) + 1):
        for row in itertools.permutations(debate.statements(), many):
            if row[0] == min(row) and is_ring(debate, row):
                found.append(list(row))
    return found


def cut(debate, lot):
    """The debate of a lot alone."""
    return Debate(lot, [(one, other) for one, other in debate.objections() if one in lot and other in lot])


def families(names, many=None):
    """All families of lots of these names, or the first so many of them."""
    return list(itertools.islice(iter(subsets(subsets(names))), many))


def ascending(thing):
    """Whether a dict's keys ascend."""
    return list(thing) == sorted(thing)
