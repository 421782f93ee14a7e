"""Who stands in which fillings of an unsure debate."""

from objections.debates import check_statement, is_statement
from objections.labels import check_how, stands
from objections.lotmasks import WAYS, check_way
from objections.marks import labels_by
from objections.partmarks import least_of
from objections.unsure import fillings


def first_standing(unsure, way, statement, how):
    """The first filling in which a statement is there and stands so, None if there is none."""
    return first_found(unsure, way, statement, how, True)


def first_falling(unsure, way, statement, how):
    """The first filling in which it is not there, or does not stand so, None if there is none."""
    return first_found(unsure, way, statement, how, False)


def first_found(unsure, way, statement, how, truth):
    """The first filling of which it is so, or not, that a statement is there and stands so; None if there is none."""
    check_way(way, WAYS)
    check_statement(unsure.full().statements(), statement)
    check_how(how)
    for filling in fillings(unsure):
        if (is_statement(filling, statement) and stands(filling, way, statement, how)) == truth:
            return filling
    return None


def label_table(unsure):
    """The dict, ascending, from all statements to the ascending lists of what they are in fillings."""
    rows = [labels_by(filling.statements(), least_of(filling)) for filling in fillings(unsure)]
    return {name: sorted({row.get(name, "gone") for row in rows}) for name in unsure.full().statements()}
