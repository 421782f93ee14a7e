"""Fillings that are best and worst for a told lot, and the first ones that have it or have it not."""

from objections.debates import Debate, mask_at
from objections.lotmasks import WAYS, check_lot, check_way, is_of_way
from objections.unsure import fillings, pairs_between


def best_filling(unsure, lot):
    """The filling with what may lack of a lot alone, and with the objections from members to others alone."""
    check_lot(unsure.full().statements(), lot)
    maybe = unsure.maybe()
    names = [name for name in unsure.full().statements() if name in lot or name not in maybe]
    return filled(unsure, names, [(one, other) for one, other in unsure.perhaps() if one in lot and other not in lot])


def worst_filling(unsure, lot):
    """The filling with all that may lack, but of the objections those to members alone."""
    names = unsure.full().statements()
    check_lot(names, lot)
    return filled(unsure, names, [(one, other) for one, other in unsure.perhaps() if other in lot])


def filled(unsure, names, kept):
    """The filling with these statements and, of the objections that may lack, with these."""
    perhaps = unsure.perhaps()
    return Debate(names, [pair for pair in pairs_between(unsure, names) if pair in kept or pair not in perhaps])


def first_for(unsure, way, lot):
    """The first filling that has a lot as one of the way, None if there is none."""
    return first_told(unsure, way, lot, True)


def first_against(unsure, way, lot):
    """The first filling that has not, None if there is none."""
    return first_told(unsure, way, lot, False)


def first_told(unsure, way, lot, truth):
    """The first filling of which it is so, or not, that it has a lot as one of the way; None if there is none."""
    check_way(way, WAYS)
    check_lot(unsure.full().statements(), lot)
    for filling in fillings(unsure):
        if has_lot(filling, way, lot) == truth:
            return filling
    return None


def has_lot(filling, way, lot):
    """Whether all members are there, and the lot is of the way."""
    names = filling.statements()
    return all([name in names for name in lot]) and is_of_way(filling, way, mask_at(filling, lot))
