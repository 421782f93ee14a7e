"""Ranks: how far down answers lead, and the ring that is left where they lead nowhere."""

from objections.debates import names_at, place_of
from objections.lotmasks import least_mask, stage_masks, undecided_by
from objections.rings import ring_within


def rank_of(debate, statement):
    """The rank of a statement, None if it has none."""
    place = place_of(debate, statement)
    for rank, stage in enumerate(stage_masks(debate)):
        if stage >> place & 1:
            return rank
    return None


def ranks_of(debate):
    """The dict, ascending, from all statements with a rank to this."""
    ranks = {}
    for rank, stage in enumerate(stage_masks(debate)):
        for name in names_at(debate, stage):
            if name not in ranks:
                ranks[name] = rank
    return {name: ranks[name] for name in sorted(ranks)}


def stages(debate):
    """The lots of all with rank at most 0, 1 and so on, to the last one that has more."""
    return [names_at(debate, stage) for stage in stage_masks(debate)]


def left_ring(debate):
    """A ring of statements that are undecided by the least lot, None if there is none."""
    return ring_within(debate, undecided_by(debate, least_mask(debate)))
