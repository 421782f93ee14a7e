"""Odd rings of objections, and that one is there wherever a greatest lot is not settled."""

from objections.debates import name_at, towards
from objections.errors import NotGreatest
from objections.lotmasks import lot_mask, undecided_by
from objections.lots import fault_of
from objections.masks import places_in
from objections.otherdebates import cut_at
from objections.rings import is_ring


def is_odd_ring(debate, thing):
    """Whether any object is an odd ring."""
    return is_ring(debate, thing) and len(thing) & 1 == 1


def odd_ring(debate):
    """A shortest odd ring, None if there is none."""
    # A shortest odd walk that comes back says no statement twice: else a part of it were a shorter one.
    walks = [odd_walk_from(debate, start) for start in range(len(debate))]
    found = [walk for walk in walks if walk]
    if not found:
        return None
    return [name_at(debate, place) for place in min(found, key=len)]


def odd_walk_from(debate, start):
    """The places of a shortest walk of odd length from a place back to it, [] if there is none."""
    ahead = {(start, 0): None}
    steps = [(start, 0)]
    while steps and (start, 1) not in ahead:
        further = []
        for place, parity in steps:
            for other in places_in(towards(debate)[place]):
                if (other, 1 - parity) not in ahead:
                    ahead[(other, 1 - parity)] = (place, parity)
                    further.append((other, 1 - parity))
        steps = further
    walk = []
    step = ahead.get((start, 1))
    while step is not None:
        walk.append(step[0])
        step = ahead[step]
    return walk[::-1]


def why_unsettled(debate, lot):
    """An odd ring of statements that are undecided by a greatest lot, None if it is settled."""
    mask = lot_mask(debate, lot)
    fault = fault_of(debate, "greatest", lot)
    if fault is not None:
        raise NotGreatest(fault)
    return odd_ring(cut_at(debate, undecided_by(debate, mask)))
