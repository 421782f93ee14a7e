"""Labels: what is in, out or undecided by a whole lot, and who stands."""

from objections.checks import is_word
from objections.debates import objectors, place_of
from objections.errors import BadHow, NotWhole
from objections.lotmasks import WAYS, check_way, hit_by, lot_mask, masks_of
from objections.lots import fault_of
from objections.marks import labels_by

HOWS = ("some", "all", "none")


def is_labelling(debate, thing):
    """Whether any object is a labelling."""
    if not isinstance(thing, dict) or len(thing) != len(debate):
        return False
    names = debate.statements()
    if not all([name in thing for name in names]):
        return False
    return all([thing[name] == label_for(debate, thing, name) for name in names])


def label_for(debate, labels, statement):
    """The label that a statement gets by those of its objectors."""
    met = [labels[name] for name in objectors(debate, statement)]
    if "in" in met:
        return "out"
    return "undecided" if "undecided" in met else "in"


def labels_of(debate, lot):
    """The labelling by a whole lot."""
    mask = lot_mask(debate, lot)
    fault = fault_of(debate, "whole", lot)
    if fault is not None:
        raise NotWhole(fault)
    return labels_at(debate, mask, hit_by(debate, mask))


def labels_at(debate, ins, outs):
    """The dict of labels, ascending, from the masks of who is in and who is out."""
    return labels_by(debate.statements(), (ins, outs))


def stands(debate, way, statement, how):
    """Whether a statement is in some lot of the way, in all, or in none."""
    check_way(way, WAYS)
    place = place_of(debate, statement)
    check_how(how)
    return stands_among([lot >> place & 1 == 1 for lot in masks_of(debate, way)], how)


def check_how(how):
    """BadHow for any object that is no such word."""
    if not is_word(how, HOWS):
        raise BadHow(how)


def stands_among(truths, how):
    """Whether some, all or none of these are true."""
    if how == "some":
        return any(truths)
    if how == "all":
        return all(truths)
    return not any(truths)
