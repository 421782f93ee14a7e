"""What has to be overheard so that a statement comes into the least lot, or out of it; and one word more."""

from heapq import heappop, heappush
from objections.checks import is_name
from objections.debates import Debate, is_statement, objectors, place_of
from objections.errors import BadName
from objections.lotmasks import least_mask
from objections.prices import check_weights, overhearing


def cheapest_rise(debate, weights, statement):
    """The least weight, and the first list with it, by which a statement comes into the least lot."""
    check_weights(debate, weights)
    return cheapest_turn(debate, weights, place_of(debate, statement), 1)


def cheapest_fall(debate, weights, statement):
    """Likewise by which it is not in the least lot; None if nobody objects to it."""
    check_weights(debate, weights)
    place = place_of(debate, statement)
    return cheapest_turn(debate, weights, place, 0) if objectors(debate, statement) else None


def cheapest_turn(debate, weights, place, bit):
    """The weight and the list by which a place first has this bit in the mask of the least lot."""
    pairs = debate.objections()
    queue = [(0, [], 0)]
    # Lists come by weight, then as they compare: what a list is grown from is ahead of it both ways.
    while queue:
        weight, gone, start = heappop(queue)
        if least_mask(overhearing(debate, gone)) >> place & 1 == bit:
            return (weight, gone)
        for turn in range(start, len(pairs)):
            heappush(queue, (weight + weights[pairs[turn]], gone + [pairs[turn]], turn + 1))
    return None


def with_answer(debate, statement, name):
    """The debate with a statement more, that objects to all objectors of a statement but itself."""
    met = [objector for objector in objectors(debate, statement) if objector != statement]
    if not is_name(name) or is_statement(debate, name):
        raise BadName(name)
    return Debate(debate.statements() + [name], debate.objections() + [(name, objector) for objector in met])
