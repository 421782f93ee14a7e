"""Families of lots: their names and pairs, and those that debates have."""

from objections.checks import first_wrong, is_word, names_key
from objections.debates import is_statement, mask_at
from objections.errors import BadFamily, BadKind, NotThere, SharedName
from objections.lotmasks import calm_masks, is_calm, masks_of
from objections.lots import lots_at
from objections.masks import places_in, topmost

KINDS = ("calm", "held", "greatest", "settled", "tops")


def check_kind(kind):
    """BadKind for any object that is no kind."""
    if not is_word(kind, KINDS):
        raise BadKind(kind)


def read_family(family):
    """The family as it is told, ascending, of ascending lots, or BadFamily."""
    index = first_wrong(family, names_key)
    if index is not None:
        raise BadFamily(index)
    return sorted([sorted(lot) for lot in family])


def names_in(lots):
    """The names of a family, ascending."""
    return sorted({name for lot in lots for name in lot})


def pairs_in(family):
    """The ascending list of the pairs of names that some lot has both."""
    return pairs_of_lots(read_family(family))


def pairs_of_lots(lots):
    """Likewise of ascending lots."""
    return sorted({(name, later) for lot in lots for name in lot for later in lot if name < later})


def pairs_up(lot, pairs):
    """Whether each two names of an ascending lot are one of the pairs."""
    return all([(name, later) in pairs for place, name in enumerate(lot) for later in lot[place + 1:]])


def lots_among(names):
    """All lots of some names, ascending."""
    lots = []
    for mask in range(1 << len(names)):
        lots.append([names[place] for place in places_in(mask)])
    return sorted(lots)


def is_part(one, other):
    """Whether a lot lies in another one, or is it."""
    return all([name in other for name in one])


def kept_down(family):
    """The family of all lots that lie in one of a family."""
    lots = read_family(family)
    return [lot for lot in lots_among(names_in(lots)) if any([is_part(lot, other) for other in lots])]


def family_of(debate, kind):
    """The family of all lots of the kind."""
    check_kind(kind)
    if kind == "tops":
        return lots_at(debate, topmost(calm_masks(debate)))
    return lots_at(debate, masks_of(debate, kind))


def nearest_calm(family):
    """All lots of a family's names that pair up."""
    lots = read_family(family)
    pairs = pairs_of_lots(lots)
    return [lot for lot in lots_among(names_in(lots)) if pairs_up(lot, pairs)]


def clashes(family, debate):
    """The ascending list of lots of a family that are not calm in a debate."""
    lots = read_family(family)
    for name in names_in(lots):
        if not is_statement(debate, name):
            raise NotThere(name)
    return [lot for lot in lots if not is_calm(debate, mask_at(debate, lot))]


def crossed(one, other):
    """The family of what a lot of one and a lot of the other are together."""
    lots = read_family(one)
    others = read_family(other)
    known = names_in(others)
    for name in names_in(lots):
        if name in known:
            raise SharedName(name)
    return sorted([sorted(lot + more) for lot in lots for more in others])
