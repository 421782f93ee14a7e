"""Surroundings of pieces: what lots they leave there, and those that tell two pieces apart."""

from objections.debates import full_mask, mask_at
from objections.errors import UnlikeGates
from objections.freshnames import fresh_names
from objections.lotmasks import check_way
from objections.lots import lots_at
from objections.partmarks import marks_of_way
from objections.pieces import Piece, check_piece, put_in
from objections.piecetables import TABLE_WAYS, table_of


def lots_around(around, piece, way):
    """The ascending list of the unlike lots of around's statements that lots of the way of both have."""
    debate = put_in(around, piece)
    check_way(way, TABLE_WAYS)
    outer = mask_at(debate, around.parts()[0])
    rows = marks_of_way(debate, full_mask(debate), way, (0, 0))
    return lots_at(debate, sorted({ins & outer for ins, _ in rows}))


def check_alike_gates(one, other):
    """UnlikeGates for pieces that have not as many gates in, and as many out."""
    check_piece(one)
    check_piece(other)
    _, ins, _, outs = one.parts()
    _, other_ins, _, other_outs = other.parts()
    if len(ins) != len(other_ins) or len(outs) != len(other_outs):
        raise UnlikeGates()


def around_parting(one, other, way):
    """A piece into which both can be put, with unlike lots around; None if there is none."""
    check_alike_gates(one, other)
    table = table_of(one, way)
    others = table_of(other, way)
    rows = [row for row in table if table[row] != others[row]]
    if not rows:
        return None
    statements, _, _, outs = one.parts()
    return around_for(rows[0], len(outs), statements + other.parts()[0])


def around_for(row, many, barred):
    """A piece that gives a row of labels to gates in, and tells each label of so many gates out."""
    names = fresh_names(barred, 1 + len(row) + 3 * many)
    striker = names[0]
    exits = names[1:1 + len(row)]
    others = names[1 + len(row):]
    objections = [(striker, name) for name, label in zip(exits, row) if label == "out"]
    statements = ([striker] if objections else []) + exits
    objections.extend([(name, name) for name, label in zip(exits, row) if label == "undecided"])
    ins = []
    for number in range(many):
        # Where the gate is out the first one is in, where it is in the second one; else none of both.
        gate, first, second = others[3 * number:3 * number + 3]
        ins.append(gate)
        statements.extend([first, second])
        objections.extend([(gate, first), (first, second)])
    return Piece(statements, ins, objections, exits)


def is_around_parting(one, other, way, thing):
    """Whether any object is a piece into which both can be put, with unlike lots around."""
    check_alike_gates(one, other)
    check_way(way, TABLE_WAYS)
    if not isinstance(thing, Piece) or not can_be_put(thing, one) or not can_be_put(thing, other):
        return False
    return lots_around(thing, one, way) != lots_around(thing, other, way)


def can_be_put(around, piece):
    """Whether put_in tells a debate of both."""
    statements, ins, _, outs = around.parts()
    others, other_ins, _, other_outs = piece.parts()
    if len(ins) > len(other_outs) or len(other_ins) > len(outs):
        return False
    return not any([name in others for name in statements])
