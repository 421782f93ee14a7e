"""Debates with weights of their objections, and what section 12 says of them, done step by step."""

import functools
import itertools
import random

from objections.debates import Debate
from tests.helper import drawn_debates, lots_by_words, subsets, tiny_debates

RING = Debate(["a", "b", "c"], [("a", "b"), ("b", "c"), ("c", "a")])
RING_WEIGHTS = {("c", "a"): 4, ("a", "b"): 2, ("b", "c"): 3}


def drawn_weights(debate, seed):
    """Weights of all objections, drawn alike each time, some of them alike, in whatever order."""
    draw = random.Random(seed)
    pairs = debate.objections()
    draw.shuffle(pairs)
    return {pair: draw.choice([1, 1, 2, 3, 7, 100]) for pair in pairs}


def weighed_debates():
    """Pairs of debates with at most eight objections and weights."""
    found = tiny_debates() + [RING] + drawn_debates(60, 3, 400) + drawn_debates(30, 4, 401)
    return [
        (debate, drawn_weights(debate, seed)) for seed, debate in enumerate(found) if len(debate.objections()) <= 8
    ]


def lists_of(debate):
    """All lists of objections, as they compare."""
    return subsets(debate.objections())


def less(debate, gone):
    """The debate without some objections."""
    return Debate(debate.statements(), [pair for pair in debate.objections() if pair not in gone])


def weight(weights, pairs):
    return sum(weights[pair] for pair in pairs)


@functools.lru_cache(maxsize=None)
def lots_without(statements, pairs, way):
    return [tuple(lot) for lot in lots_by_words(Debate(statements, pairs), way)]


def helping(debate, way, lot):
    """All lists of objections by overhearing which a lot is of a way."""
    return [
        gone for gone in lists_of(debate)
        if tuple(lot) in lots_without(tuple(debate.statements()), tuple(less(debate, gone).objections()), way)
    ]


def held_weights(debate, weights):
    """The dict from all lots to the least weight by which they are held."""
    return {
        tuple(lot): min(weight(weights, gone) for gone in helping(debate, "held", lot))
        for lot in subsets(debate.statements())
    }


def greatest_by_words(prices, budget):
    """The greatest lots by a budget, by the least weights by which lots are held."""
    held = [lot for lot, price in prices.items() if price <= budget]
    return sorted(list(lot) for lot in held if not any(set(lot) < set(other) for other in held))


def odd_weights(debate, weights):
    """What is nearly weights of a debate with some objection, and is none."""
    pair = debate.objections()[0]
    odd = [{one: share for one, share in weights.items() if one != pair}, weights | {("zz", "zz"): 1}]
    odd += [weights | {pair: share} for share in (0, -1, True, None, "1", [1], (1,))]
    odd += [{"".join(one): share for one, share in weights.items()}, list(weights.items())]
    odd.append({(other, one): share for (one, other), share in weights.items()} | {("zz", "a"): 5})
    return odd


def eight_statements():
    """A debate of eight statements with all objections but a few, its weights to a hundred."""
    names = list("abcdefgh")
    draw = random.Random(402)
    pairs = [pair for pair in itertools.product(names, repeat=2) if draw.random() < 0.8]
    return Debate(names, pairs), {pair: draw.randint(1, 100) for pair in pairs}
