"""For which audiences statements stand, and which audiences hear alike."""

from objections.audiences import all_audiences, check_audience, heard_at, values_of
from objections.debates import full_mask, name_at, names_at, place_of
from objections.labels import check_how, stands_among
from objections.lotmasks import WAYS, check_way, least_mask, masks_of
from objections.masks import first_place
from objections.partmarks import least_of


def heard_by_all(debate, worths):
    """The pairs of each debate that is heard and the ascending list of its audiences, by their first ones."""
    found = {}
    for audience in all_audiences(debate, worths):
        heard = heard_at(debate, worths, audience)
        key = tuple(heard.objections())
        if key not in found:
            found[key] = (heard, [])
        found[key][1].append(audience)
    return list(found.values())


def standing_mask(debate, way, how):
    """Who stands so in a debate."""
    lots = masks_of(debate, way)
    standing = 0
    for place in range(len(debate)):
        if stands_among([lot >> place & 1 == 1 for lot in lots], how):
            standing = standing | (1 << place)
    return standing


def audiences_for(debate, worths, way, statement, how):
    """The ascending list of the audiences for which a statement stands."""
    values_of(debate, worths)
    check_way(way, WAYS)
    place = place_of(debate, statement)
    check_how(how)
    found = []
    for heard, audiences in heard_by_all(debate, worths):
        if standing_mask(heard, way, how) >> place & 1:
            found.extend(audiences)
    return sorted(found)


def standing_for_all(debate, worths, way, how):
    """For each debate that is heard who stands so there."""
    values_of(debate, worths)
    check_way(way, WAYS)
    check_how(how)
    return [standing_mask(heard, way, how) for heard, _ in heard_by_all(debate, worths)]


def sure_ones(debate, worths, way, how):
    """The ascending list of the statements that stand so for all audiences."""
    sure = full_mask(debate)
    for standing in standing_for_all(debate, worths, way, how):
        sure = sure & standing
    return names_at(debate, sure)


def possible_ones(debate, worths, way, how):
    """The ascending list of the statements that stand so for some audience."""
    possible = 0
    for standing in standing_for_all(debate, worths, way, how):
        possible = possible | standing
    return names_at(debate, possible)


def audience_lots(debate, worths):
    """The ascending list of the pairs of a lot and the audiences for which it is the least one."""
    found = {}
    for heard, audiences in heard_by_all(debate, worths):
        lot = tuple(names_at(heard, least_mask(heard)))
        found[lot] = found.get(lot, []) + audiences
    return [(list(lot), sorted(found[lot])) for lot in sorted(found)]


def apart_at(debate, worths, one, other):
    """The first statement that two audiences label otherwise by their least lots, None if there is none."""
    values = values_of(debate, worths)
    check_audience(values, one)
    check_audience(values, other)
    ins, outs = least_of(heard_at(debate, worths, one))
    other_ins, other_outs = least_of(heard_at(debate, worths, other))
    apart = (ins ^ other_ins) | (outs ^ other_outs)
    return name_at(debate, first_place(apart)) if apart else None


def counted_alike(debate, worths):
    """The list of the lists of audiences for which the same objections count, by their first ones."""
    return [audiences for _, audiences in heard_by_all(debate, worths)]
