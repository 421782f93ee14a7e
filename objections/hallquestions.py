"""Questions that are asked of a hall."""

from objections.checks import is_list, is_name, is_word, wrong_word
from objections.debates import is_statement
from objections.hallstates import said_by
from objections.labels import HOWS, stands
from objections.lotmasks import WAYS
from objections.lots import least_lot, lots_of
from objections.marks import labels_by
from objections.partmarks import least_of
from objections.pieces import cut_out
from objections.piecetables import TABLE_WAYS, labels_for, table_for, unlike_rows
from objections.ranking import rank_of
from objections.surelots import sure_lot

PARTS = {
    "stands": ("way", "statement", "how"),
    "lots": ("way",),
    "label": ("statement",),
    "rank": ("statement",),
    "sure": ("statement",),
    "won": ("speaker",),
    "alike": ("lot", "lot", "table way"),
}


def read_question(debate, thing):
    """Any object as a question of a debate, of tuples throughout; None if it is none."""
    if not is_list(thing) or len(thing) == 0 or not isinstance(thing[0], str) or thing[0] not in PARTS:
        return None
    kinds = PARTS[thing[0]]
    if len(thing) != 1 + len(kinds):
        return None
    if not all([is_part(debate, kind, part) for kind, part in zip(kinds, thing[1:])]):
        return None
    return tuple([tuple(part) if is_list(part) else part for part in thing])


def is_part(debate, kind, thing):
    """Whether any object is of the kind that a part of a question has."""
    if kind == "statement":
        return is_statement(debate, thing)
    if kind == "speaker":
        return is_name(thing)
    if kind == "lot":
        return wrong_word(thing, debate.statements()) is None and list(thing) == sorted(thing)
    if kind == "way":
        return is_word(thing, WAYS)
    return is_word(thing, HOWS if kind == "how" else TABLE_WAYS)


def answer_in(state, question):
    """What is asked by a question of a state."""
    if question not in state.known:
        state.known[question] = work_out(state, question)
    return state.known[question]


def work_out(state, question):
    """Likewise, if it is not known."""
    kind = question[0]
    debate = state.debate
    if kind == "stands":
        _, way, statement, how = question
        return stands(debate, way, statement, how)
    if kind == "lots":
        return len(lots_of(debate, question[1]))
    if kind == "label":
        return labels_by(debate.statements(), least_of(debate))[question[1]]
    if kind == "rank":
        return rank_of(debate, question[1])
    if kind == "sure":
        return question[1] in sure_lot(debate)
    if kind == "won":
        least = least_lot(debate)
        return len([name for name in said_by(state, question[1]) if name in least])
    _, lot, other, way = question
    return are_alike(debate, lot, other, way)


def are_alike(debate, lot, other, way):
    """Whether the pieces of two lots have equal tables, None if they have not as many gates in, and out."""
    _, one = cut_out(debate, lot)
    _, two = cut_out(debate, other)
    _, ins, _, outs = one.parts()
    _, other_ins, _, other_outs = two.parts()
    if len(ins) != len(other_ins) or len(outs) != len(other_outs):
        return None
    rows = unlike_rows(one, two, labels_for(way))
    return table_for(one, way, rows) == table_for(two, way, rows)
