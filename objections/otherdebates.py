"""Debates made of other ones: cut, renamed, joined, turned."""

from objections.checks import wrong_name
from objections.debates import Debate, full_mask, names_at
from objections.errors import BadNames
from objections.lotmasks import lot_mask


def cut_to(debate, lot):
    """The statements of a lot alone, with the objections between them."""
    return cut_at(debate, lot_mask(debate, lot))


def without(debate, lot):
    """All other statements, with the objections between them."""
    return cut_at(debate, full_mask(debate) & ~lot_mask(debate, lot))


def cut_at(debate, mask):
    """The statements of a mask, with the objections between them."""
    names = names_at(debate, mask)
    kept = {name: True for name in names}
    return Debate(names, [(one, other) for one, other in debate.objections() if one in kept and other in kept])


def renamed(debate, names):
    """The same debate under other names."""
    if not are_new_names(debate, names):
        raise BadNames(names)
    pairs = [(names[one], names[other]) for one, other in debate.objections()]
    return Debate([names[name] for name in debate.statements()], pairs)


def are_new_names(debate, thing):
    """Whether any object is a dict from just all statements to unlike names."""
    if not isinstance(thing, dict) or len(thing) != len(debate):
        return False
    if not all([name in thing for name in debate.statements()]):
        return False
    return wrong_name(list(thing.values())) is None


def joined(one, other):
    """All statements and all objections of both."""
    statements = sorted(set(one.statements() + other.statements()))
    return Debate(statements, sorted(set(one.objections() + other.objections())))


def turned(debate):
    """Each objection the other way."""
    return Debate(debate.statements(), [(other, one) for one, other in debate.objections()])
