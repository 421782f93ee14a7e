"""Lots of a debate as masks: which are calm, held, whole, least, greatest, settled."""

from objections.checks import is_word, wrong_word
from objections.debates import against, full_mask, mask_at, towards
from objections.errors import BadLot, BadWay
from objections.masks import lies_in, topmost, union_at

WAYS = ("calm", "held", "whole", "least", "greatest", "settled")


def check_way(way, ways):
    """BadWay for any object that is none of these ways."""
    if not is_word(way, ways):
        raise BadWay(way)


def check_lot(names, lot):
    """BadLot for any object that is no list of unlike names of statements."""
    index = wrong_word(lot, names)
    if index is not None:
        raise BadLot(index)


def lot_mask(debate, lot):
    """The mask of a lot, or BadLot."""
    check_lot(debate.statements(), lot)
    return mask_at(debate, lot)


def mask_or_none(debate, thing):
    """The mask of a lot, None for any other object."""
    if wrong_word(thing, debate.statements()) is not None:
        return None
    return mask_at(debate, thing)


def hit_by(debate, lot):
    """All to which a lot objects."""
    return union_at(towards(debate), lot)


def met_by(debate, lot):
    """All that objects to a lot."""
    return union_at(against(debate), lot)


def answered_by(debate, lot):
    """All that a lot answers."""
    hit = hit_by(debate, lot)
    answered = 0
    for place, met in enumerate(against(debate)):
        if lies_in(met, hit):
            answered = answered | (1 << place)
    return answered


def undecided_by(debate, lot):
    """All that is neither in a lot nor objected to by it."""
    return full_mask(debate) & ~(lot | hit_by(debate, lot))


def calm_rows(debate):
    """All calm lots, each with all that it objects to, and all that objects to it."""
    rows = [(0, 0, 0)]
    for place, hit in enumerate(towards(debate)):
        bit = 1 << place
        met = against(debate)[place]
        if not hit & bit:
            rows = rows + [
                (lot | bit, hits | hit, mets | met) for lot, hits, mets in rows if not (hits & bit or hit & lot)
            ]
    return rows


def held_rows(debate):
    """Those of them that are held."""
    return [(lot, hits, mets) for lot, hits, mets in calm_rows(debate) if lies_in(mets, hits)]


def held_masks(debate):
    """All held lots."""
    return [lot for lot, _, _ in held_rows(debate)]


def calm_masks(debate):
    """All calm lots."""
    return [lot for lot, _, _ in calm_rows(debate)]


def whole_masks(debate):
    """All whole lots."""
    return [lot for lot in held_masks(debate) if answered_by(debate, lot) == lot]


def settled_masks(debate):
    """All settled lots."""
    full = full_mask(debate)
    return [lot for lot, hits, _ in calm_rows(debate) if lot | hits == full]


def greatest_masks(debate):
    """All greatest lots."""
    return topmost(held_masks(debate))


def stage_masks(debate):
    """What nobody's lot answers, what this answers, and so on, as long as it grows."""
    stages = [answered_by(debate, 0)]
    further = answered_by(debate, stages[0])
    while further != stages[-1]:
        stages.append(further)
        further = answered_by(debate, further)
    return stages


def least_mask(debate):
    """The least lot."""
    return stage_masks(debate)[-1]


def masks_of(debate, way):
    """All lots of a way."""
    if way == "calm":
        return calm_masks(debate)
    if way == "held":
        return held_masks(debate)
    if way == "whole":
        return whole_masks(debate)
    if way == "least":
        return [least_mask(debate)]
    if way == "greatest":
        return greatest_masks(debate)
    return settled_masks(debate)


def is_calm(debate, lot):
    """Whether a lot is calm."""
    return not hit_by(debate, lot) & lot


def is_held(debate, lot):
    """Whether a lot is held."""
    return is_calm(debate, lot) and lies_in(met_by(debate, lot), hit_by(debate, lot))


def is_of_way(debate, way, lot):
    """Whether a lot is of a way; all lots are gone through for the greatest ones alone."""
    if way == "calm":
        return is_calm(debate, lot)
    if way == "settled":
        return is_calm(debate, lot) and undecided_by(debate, lot) == 0
    if way == "least":
        return lot == least_mask(debate)
    if not is_held(debate, lot):
        return False
    if way == "held":
        return True
    if way == "whole":
        return answered_by(debate, lot) == lot
    return lot in greatest_masks(debate)
