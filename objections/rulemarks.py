"""Labellings by any rule: a function from marks to the marks that follow, which tells more of more."""

from objections.lotmasks import check_way
from objections.marks import labels_by, read_marks
from objections.masks import places_in, topmost

LABEL_WAYS = ("whole", "least", "greatest", "settled")


def is_labelling_by(names, rule, thing):
    """Whether any object is a dict of labels that follow from themselves."""
    marks = read_marks(names, thing)
    return marks is not None and rule(marks) == marks


def labellings_by(names, rule, way):
    """The list of the dicts of labels of the way, as the lists of their labels compare."""
    check_way(way, LABEL_WAYS)
    return [labels_by(names, marks) for marks in marks_by_rule(len(names), rule, way)]


def marks_in_turn(rule):
    """What follows from nothing, what follows from this, and so on, as long as it grows."""
    turns = [rule((0, 0))]
    further = rule(turns[0])
    while further != turns[-1]:
        turns.append(further)
        further = rule(further)
    return turns


def marks_by_rule(many, rule, way):
    """The marks of the way, as the lists of their labels compare."""
    least = marks_in_turn(rule)[-1]
    if way == "least":
        return [least]
    rows = [marks for marks in marks_beside(many, least) if rule(marks) == marks]
    if way == "settled":
        return [(ins, outs) for ins, outs in rows if ins | outs == (1 << many) - 1]
    if way == "greatest":
        tops = topmost([ins | outs << many for ins, outs in rows])
        return [(ins, outs) for ins, outs in rows if ins | outs << many in tops]
    return rows


def marks_beside(many, least):
    """All marks of so many places that have all of the least ones, as the lists of their labels compare."""
    ins, outs = least
    rows = [least]
    for place in places_in((1 << many) - 1 & ~(ins | outs)):
        bit = 1 << place
        rows = [
            marks for more, others in rows for marks in ((more | bit, others), (more, others | bit), (more, others))
        ]
    return rows
