"""Pieces that are joined and fed back, and the like of their tables."""

from objections.checks import is_index, is_number
from objections.errors import BadTable, NoGate, SharedName
from objections.lotmasks import check_way
from objections.marks import rows_of
from objections.pieces import Piece, check_piece
from objections.piecetables import TABLE_WAYS, labels_for, read_table, rises


def pieces_joined(one, other):
    """The piece that has all of both, one's gates ahead of other's."""
    check_piece(one)
    check_piece(other)
    statements, ins, objections, outs = one.parts()
    others, other_ins, other_objections, other_outs = other.parts()
    known = others + other_ins
    for name in sorted(statements + ins):
        if name in known:
            raise SharedName(name)
    return Piece(statements + others, ins + other_ins, objections + other_objections, outs + other_outs)


def fed_back(piece, number, gate):
    """The piece in which a gate in becomes the gate out of this number."""
    check_piece(piece)
    statements, ins, objections, outs = piece.parts()
    if not is_index(number, len(outs)):
        raise NoGate(number)
    if not is_index(gate, len(ins)):
        raise NoGate(gate)
    source = outs[number]
    pairs = sorted({(source if one == ins[gate] else one, other) for one, other in objections})
    return Piece(statements, ins[:gate] + ins[gate + 1:], pairs, outs)


def check_table(thing, way):
    """The table of the way, with rows as tuples, or BadTable."""
    table = read_table(thing, way)
    if table is None or way == "least" and not rises(table):
        raise BadTable(thing)
    return table


def tables_joined(one, other, way):
    """The table of two pieces that are joined, of their tables."""
    check_way(way, TABLE_WAYS)
    table = check_table(one, way)
    others = check_table(other, way)
    return {
        key + more: [row + further for row in rows for further in other_rows]
        for key, rows in table.items() for more, other_rows in others.items()
    }


def table_fed_back(table, way, number, gate):
    """The table of a piece that is fed back, of its table."""
    check_way(way, TABLE_WAYS)
    rows_of_keys = check_table(table, way)
    check_number(number, [len(row) for rows in rows_of_keys.values() for row in rows])
    many = len(list(rows_of_keys)[0])
    if not is_index(gate, many):
        raise NoGate(gate)
    told = {}
    for key in rows_of(labels_for(way), many - 1):
        if way == "least":
            told[key] = [settled_row(rows_of_keys, key, number, gate)]
        else:
            found = [
                row for label in labels_for(way) for row in rows_of_keys[with_label(key, gate, label)]
                if row[number] == label
            ]
            told[key] = sorted(set(found))
    return told


def check_number(number, lengths):
    """NoGate for what is no index in rows of these lengths, which are alike; any is let where there is no row."""
    is_right = is_index(number, lengths[0]) if lengths else is_number(number)
    if not is_right:
        raise NoGate(number)


def with_label(key, gate, label):
    """A row of labels with one more at an index."""
    return key[:gate] + (label,) + key[gate:]


def settled_row(table, key, number, gate):
    """The row by "least" behind a gate in that is undecided first, then has what the number so has, till it stays."""
    label = "undecided"
    row = table[with_label(key, gate, label)][0]
    while row[number] != label:
        label = row[number]
        row = table[with_label(key, gate, label)][0]
    return row
