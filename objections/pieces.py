"""Pieces of debates, with gates from and to the outside."""

from objections.checks import first_wrong, name_key, wrong_name, wrong_pair, wrong_word
from objections.debates import Debate, full_mask, names_at
from objections.errors import BadIns, BadObjections, BadOuts, BadPiece, BadStatements, NoFit, SharedName
from objections.lotmasks import lot_mask, met_by
from objections.things import Thing


class Piece(Thing):
    """Statements with objections between them and from gates in; it never changes."""

    def __init__(self, statements, ins, objections, outs):
        index = wrong_name(statements)
        if index is not None:
            raise BadStatements(index)
        index = wrong_gate(ins, statements)
        if index is not None:
            raise BadIns(index)
        index = wrong_pair(objections, list(statements) + list(ins), statements)
        if index is not None:
            raise BadObjections(index)
        index = wrong_word(outs, statements)
        if index is not None:
            raise BadOuts(index)
        self._statements = sorted(statements)
        self._ins = list(ins)
        self._objections = sorted([(one, other) for one, other in objections])
        self._outs = list(outs)

    def parts(self):
        return (list(self._statements), list(self._ins), list(self._objections), list(self._outs))

    def __eq__(self, other):
        return isinstance(other, Piece) and self.parts() == other.parts()


def wrong_gate(ins, statements):
    """The index of the first thing that is no name, or a statement, or stood before; 0 for no list, else None."""
    return first_wrong(ins, lambda thing: None if thing in statements else name_key(thing))


def check_piece(thing):
    """BadPiece for any object that is no piece."""
    if not isinstance(thing, Piece):
        raise BadPiece(thing)


def put_in(around, piece):
    """The debate of both ones' statements, the gates in of each being the gates out of the other."""
    check_piece(around)
    check_piece(piece)
    statements, ins, objections, outs = around.parts()
    others, other_ins, other_objections, other_outs = piece.parts()
    if len(ins) > len(other_outs):
        raise NoFit(len(other_outs))
    if len(other_ins) > len(outs):
        raise NoFit(len(outs))
    for name in statements:
        if name in others:
            raise SharedName(name)
    pairs = led_from(objections, ins, other_outs) + led_from(other_objections, other_ins, outs)
    return Debate(statements + others, pairs)


def led_from(objections, ins, outs):
    """The objections with each gate in being the gate out of the same number."""
    sources = dict(zip(ins, outs))
    return [(sources.get(one, one), other) for one, other in objections]


def cut_out(debate, lot):
    """The piece of all other statements, and the piece of the lot's, gates ascending by names."""
    members = lot_mask(debate, lot)
    others = full_mask(debate) & ~members
    entries = names_at(debate, met_by(debate, members) & others)
    exits = names_at(debate, met_by(debate, others) & members)
    around = piece_at(debate, others, exits, entries)
    return (around, piece_at(debate, members, entries, exits))


def piece_at(debate, mask, ins, outs):
    """The piece of the statements of a mask, with all objections to them."""
    names = names_at(debate, mask)
    return Piece(names, ins, [(one, other) for one, other in debate.objections() if other in names], outs)
