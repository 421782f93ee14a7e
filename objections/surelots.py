"""What is in all greatest lots, and the sure lots: held ones that no held lot objects to."""

from objections.debates import against, name_at, names_at, place_of
from objections.errors import NotHeld
from objections.heldtalks import least_held
from objections.lotmasks import greatest_masks, held_masks, is_held, lot_mask, mask_or_none, met_by
from objections.lots import fault_of, lots_at
from objections.masks import count_of, places_in


def lacking_lot(debate, statement):
    """The first greatest lot that has not a statement, None if all have it."""
    place = place_of(debate, statement)
    lots = lots_at(debate, [lot for lot in greatest_masks(debate) if not lot >> place & 1])
    return lots[0] if lots else None


def held_by_some(debate):
    """All that is in some held lot."""
    union = 0
    for lot in held_masks(debate):
        union = union | lot
    return union


def sure_masks(debate):
    """All sure lots."""
    some = held_by_some(debate)
    return [lot for lot in held_masks(debate) if not met_by(debate, lot) & some]


def sure_lots(debate):
    """The ascending list of all sure lots."""
    return lots_at(debate, sure_masks(debate))


def sure_lot(debate):
    """The greatest sure lot, which has all that is in any."""
    union = 0
    for lot in sure_masks(debate):
        union = union | lot
    return names_at(debate, union)


def is_sure(debate, thing):
    """Whether any object is a sure lot."""
    lot = mask_or_none(debate, thing)
    return lot is not None and is_held(debate, lot) and not met_by(debate, lot) & held_by_some(debate)


def sure_paper(debate, statement):
    """The first sure lot with a statement of those with fewest members, None if there is none."""
    place = place_of(debate, statement)
    lots = [lot for lot in sure_masks(debate) if lot >> place & 1]
    if not lots:
        return None
    fewest = min([count_of(lot) for lot in lots])
    return lots_at(debate, [lot for lot in lots if count_of(lot) == fewest])[0]


def why_unsure(debate, lot):
    """The member, its objector and a held lot with this that keep a held lot from being sure, None if none do."""
    mask = lot_mask(debate, lot)
    fault = fault_of(debate, "held", lot)
    if fault is not None:
        raise NotHeld(fault)
    some = held_by_some(debate)
    for member in places_in(mask):
        met = names_at(debate, against(debate)[member] & some)
        if met:
            return (name_at(debate, member), met[0], least_held(debate, met[0])[0])
    return None
