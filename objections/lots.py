"""Lots of statements: what they answer, of which ways they are, and why they are not."""

from objections.debates import against, name_at, names_at, objects_to
from objections.lotmasks import (
    WAYS, answered_by, check_way, greatest_masks, hit_by, is_of_way, least_mask, lot_mask, mask_or_none, masks_of,
    met_by, undecided_by,
)
from objections.masks import lies_in, places_in


def answered(debate, lot):
    """The ascending list of all that a lot answers."""
    return names_at(debate, answered_by(debate, lot_mask(debate, lot)))


def is_lot(debate, way, thing):
    """Whether any object is a lot of the way."""
    check_way(way, WAYS)
    lot = mask_or_none(debate, thing)
    return lot is not None and is_of_way(debate, way, lot)


def lots_of(debate, way):
    """The ascending list of all lots of the way."""
    check_way(way, WAYS)
    return lots_at(debate, masks_of(debate, way))


def lots_at(debate, masks):
    """The lots of some masks, ascending."""
    return sorted([names_at(debate, mask) for mask in masks])


def least_lot(debate):
    """The least lot."""
    return names_at(debate, least_mask(debate))


def fault_of(debate, way, lot):
    """None if a lot is of the way, else the first thing that keeps it from this."""
    check_way(way, WAYS)
    mask = lot_mask(debate, lot)
    clash = first_clash(debate, mask)
    if clash is not None:
        return clash
    if way == "calm":
        return None
    if way == "settled":
        return first_spared(debate, mask)
    unanswered = first_unanswered(debate, mask)
    if unanswered is not None or way == "held":
        return unanswered
    lacking = first_lacking(debate, mask)
    if lacking is not None or way == "whole":
        return lacking
    if way == "least":
        return other_least(debate, mask)
    return first_greater(debate, mask)


def first_clash(debate, lot):
    """The first pair of members of which one objects to the other."""
    places = places_in(lot)
    for one in places:
        for other in places:
            if objects_to(debate, one, other):
                return ("clash", name_at(debate, one), name_at(debate, other))
    return None


def first_unanswered(debate, lot):
    """The first member with an objector to which no member objects, and the first such one."""
    unanswered = met_by(debate, lot) & ~hit_by(debate, lot)
    for member in places_in(lot):
        met = names_at(debate, against(debate)[member] & unanswered)
        if met:
            return ("unanswered", name_at(debate, member), met[0])
    return None


def first_lacking(debate, lot):
    """The first statement that a lot answers and has not."""
    lacking = names_at(debate, answered_by(debate, lot) & ~lot)
    return ("lacks", lacking[0]) if lacking else None


def first_spared(debate, lot):
    """The first statement outside to which no member objects."""
    spared = names_at(debate, undecided_by(debate, lot))
    return ("spared", spared[0]) if spared else None


def other_least(debate, lot):
    """The least lot, where it is not this one."""
    least = least_mask(debate)
    return None if lot == least else ("least", names_at(debate, least))


def first_greater(debate, lot):
    """The first greatest lot with all members of a held one, where it has more."""
    tops = greatest_masks(debate)
    if lot in tops:
        return None
    return ("greater", lots_at(debate, [top for top in tops if lies_in(lot, top)])[0])
