"""Debates that are built for a family of lots, and all of them on its names alone."""

from objections.bars import all_bars
from objections.debates import Debate
from objections.families import (
    check_kind, family_of, is_part, lots_among, names_in, pairs_of_lots, pairs_up, read_family,
)
from objections.freshnames import fresh_names


def debate_for(family, kind):
    """A debate whose family of the kind is just this, None if there is none."""
    lots = read_family(family)
    check_kind(kind)
    if all_bars(lots, kind):
        return None
    names = names_in(lots)
    further = further_objectors(lots, kind)
    fresh = fresh_names(names, len(further))
    objections = clash_pairs(lots)
    for name, (answers, targets) in zip(fresh, further):
        objections.append((name, name))
        objections.extend([(name, target) for target in targets])
        objections.extend([(answer, name) for answer in answers])
    return Debate(names + fresh, objections)


def clash_pairs(lots):
    """All pairs, both ways, of names that no lot has both."""
    names = names_in(lots)
    pairs = pairs_of_lots(lots)
    barred = [(one, other) for one in names for other in names if one < other and (one, other) not in pairs]
    return barred + [(other, one) for one, other in barred]


def further_objectors(lots, kind):
    """For each further statement the names that object to it, and those to which it objects."""
    if kind in ("held", "greatest"):
        return [(picked, [name]) for name in names_in(lots) for picked in picked_names(lots, name)]
    if kind == "settled":
        return [(others, []) for others in outside_names(lots)]
    return []


def picked_names(lots, name):
    """The ways to pick a name of each lot that has this one, itself left out; of ways within others these alone."""
    ways = [[]]
    for lot in lots:
        if name in lot:
            grown = sorted([sorted(set(way + [other])) for way in ways for other in lot if other != name])
            ways = least_ones(grown)
    return ways


def least_ones(ways):
    """The unlike ones of some lots in which no other one lies."""
    kept = []
    for way in sorted(ways, key=len):
        if not any([is_part(other, way) for other in kept]):
            kept.append(way)
    return kept


def outside_names(lots):
    """For each greatest lot that pairs up and is not in the family all other names."""
    names = names_in(lots)
    pairs = pairs_of_lots(lots)
    paired = [lot for lot in lots_among(names) if pairs_up(lot, pairs)]
    tops = [lot for lot in paired if not any([lot != other and is_part(lot, other) for other in paired])]
    return [[name for name in names if name not in lot] for lot in tops if lot not in lots]


def exact_debates(family, kind):
    """All debates with just the family's names whose family of the kind it is, by their objections."""
    lots = read_family(family)
    check_kind(kind)
    names = names_in(lots)
    # Names of one lot never clash in a lot of any kind, nor does one with itself.
    rows = lots_among(sorted(clash_pairs(lots)))
    debates = [Debate(names, row) for row in sorted(rows, key=len)]
    return [debate for debate in debates if family_of(debate, kind) == lots]
