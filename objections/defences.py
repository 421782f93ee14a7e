"""Defences: lots that can be told one by one, each member being answered for by earlier ones."""

from objections.debates import names_at, place_of
from objections.lotmasks import answered_by, least_mask, mask_or_none
from objections.masks import places_in


def is_defence(debate, statement, thing):
    """Whether any object is a defence of the statement."""
    place = place_of(debate, statement)
    lot = mask_or_none(debate, thing)
    return lot is not None and lot >> place & 1 == 1 and can_be_told(debate, lot)


def can_be_told(debate, lot):
    """Whether all members can be told, each behind such as answer for it."""
    told = 0
    further = answered_by(debate, told) & lot
    while further != told:
        told = further
        further = answered_by(debate, told) & lot
    return told == lot


def fewest_defence(debate, statement):
    """The first defence of those with fewest members, None if there is none."""
    place = place_of(debate, statement)
    least = least_mask(debate)
    # The members of a defence are told as ranks rise: all of them lie in the least lot.
    others = places_in(least & ~(1 << place))
    rows = [(1 << place, 0)] if least >> place & 1 else []
    while rows:
        for lot, _ in rows:
            if can_be_told(debate, lot):
                return names_at(debate, lot)
        rows = [
            (lot | (1 << others[turn]), turn + 1) for lot, start in rows for turn in range(start, len(others))
        ]
    return None
