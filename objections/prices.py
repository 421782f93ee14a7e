"""Weights of objections, and what has to be overheard so that a told lot is of a way."""

from objections.checks import is_number
from objections.debates import Debate, full_mask, names_at
from objections.errors import BadObjections, BadWeights
from objections.lotmasks import check_way, hit_by, lot_mask, undecided_by
from objections.unsure import wrong_objection

PRICED_WAYS = ("calm", "held", "settled")


def check_weights(debate, weights):
    """BadWeights for any object that is no dict from just all objections to integers from 1 on."""
    pairs = debate.objections()
    if not isinstance(weights, dict) or len(weights) != len(pairs):
        raise BadWeights(weights)
    if not all([pair in weights and is_number(weights[pair]) and weights[pair] > 0 for pair in pairs]):
        raise BadWeights(weights)


def overhearing(debate, objections):
    """The debate without some objections."""
    index = wrong_objection(debate, objections)
    if index is not None:
        raise BadObjections(index)
    gone = [(one, other) for one, other in objections]
    return Debate(debate.statements(), [pair for pair in debate.objections() if pair not in gone])


def price_of(debate, weights, way, lot):
    """The least weight of what is overheard so that a lot is of the way, None if nothing helps."""
    gone = overheard_for(debate, weights, way, lot)
    return None if gone is None else weight_of_all(weights, gone)


def weight_of_all(weights, pairs):
    """The sum of the weights of some objections."""
    return sum([weights[pair] for pair in pairs])


def overheard_for(debate, weights, way, lot):
    """The ascending list of what is overheard then, None if nothing helps."""
    check_weights(debate, weights)
    check_way(way, PRICED_WAYS)
    return overheard_at(debate, way, lot_mask(debate, lot))


def overheard_at(debate, way, lot):
    """Likewise for the lot of a mask."""
    if way == "settled" and undecided_by(debate, lot):
        return None
    unanswered = full_mask(debate) & ~hit_by(debate, lot) if way == "held" else 0
    members = names_at(debate, lot)
    barred = names_at(debate, lot | unanswered)
    return [(one, other) for one, other in debate.objections() if one in barred and other in members]
