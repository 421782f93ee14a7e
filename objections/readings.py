"""Readings of rules: which claims are in, out or undecided by them."""

from objections.claimmasks import all_claims, rule_of_claims
from objections.lotmasks import check_way
from objections.marks import read_marks
from objections.rulemarks import LABEL_WAYS, labellings_by, marks_by_rule


def readings(known, way):
    """The list of all readings of the way, by their rows of labels."""
    return labellings_by(known.claims(), rule_of_claims(known), way)


def is_reading(known, way, thing):
    """Whether any object is a reading of the way."""
    check_way(way, LABEL_WAYS)
    marks = read_marks(known.claims(), thing)
    rule = rule_of_claims(known)
    if marks is None or rule(marks) != marks:
        return False
    if way == "whole":
        return True
    if way == "settled":
        return marks[0] | marks[1] == all_claims(known)
    return marks in marks_by_rule(len(known.claims()), rule, way)
