"""Parts: statements that hang together, and labellings that are made part by part."""

from objections.debates import against, full_mask, place_of
from objections.labels import check_how, labels_at, stands_among
from objections.lotmasks import check_way
from objections.masks import places_in, reached_from
from objections.partmarks import marks_of_way, parts_in_turn

PART_WAYS = ("whole", "least", "greatest", "settled")


def parts_of(debate):
    """The greatest lots that hang together, those ahead whose objections lead to others."""
    names = debate.statements()
    parts = parts_in_turn(debate, full_mask(debate), False)
    return [[names[place] for place in places_in(part)] for part in parts]


def labels_by_parts(debate):
    """The list of all labellings, as the lists of their in ones compare."""
    rows = marks_by_parts(debate, "whole")
    same_ins = full_mask(debate)
    same_outs = full_mask(debate)
    some = 0
    for ins, outs in rows:
        same_ins = same_ins & ins
        same_outs = same_outs & outs
        some = some | ins | outs
    # Most labels are alike in all labellings: they are told once, and copied.
    told = labels_at(debate, same_ins, same_outs)
    names = debate.statements()
    others = [(names[place], 1 << place) for place in places_in(some & ~(same_ins | same_outs))]
    return [labels_beside(told, others, ins, outs) for ins, outs in rows]


def labels_beside(told, others, ins, outs):
    """A copy of told labels with those of some others, undecided so far."""
    labels = dict(told)
    for name, bit in others:
        if ins & bit:
            labels[name] = "in"
        elif outs & bit:
            labels[name] = "out"
    return labels


def lots_by_parts(debate, way):
    """The ascending list of the lots of a way."""
    check_way(way, PART_WAYS)
    names = debate.statements()
    return [[names[place] for place in places_in(ins)] for ins, _ in marks_by_parts(debate, way)]


def marks_by_parts(debate, way):
    """The labellings of a way as marks, by the lists of who is in."""
    rows = marks_of_way(debate, full_mask(debate), way, (0, 0))
    return sorted(rows, key=lambda row: order_key(row[0]))


def order_key(mask):
    """A string by which masks compare as the lists of their places do."""
    # From the first place on: who is in comes ahead of who is not, a list's end ahead of both.
    signs = f"{mask:b}"
    return signs[::-1].replace("0", "b").rstrip("b")


def stands_by_parts(debate, way, statement, how):
    """Whether a statement is in some lot of the way, in all, or in none."""
    check_way(way, PART_WAYS)
    place = place_of(debate, statement)
    check_how(how)
    within = full_mask(debate)
    if way != "settled":
        # What does not lead to the statement is labelled in some way whatever is so ahead.
        within = reached_from(1 << place, against(debate), within)
    rows = marks_of_way(debate, within, way, (0, 0))
    return stands_among([ins >> place & 1 == 1 for ins, _ in rows], how)
