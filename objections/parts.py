"""Parts: statements that hang together, and labellings that are made part by part."""

from objections.debates import against, names_at, place_of, towards
from objections.labels import check_how, labels_at, stands_among
from objections.lotmasks import check_way
from objections.masks import lies_in, places_in, topmost, union_at

PART_WAYS = ("whole", "least", "greatest", "settled")


def parts_of(debate):
    """The greatest lots that hang together, those ahead whose objections lead to others."""
    return [names_at(debate, part) for part in part_masks(debate)]


def part_masks(debate):
    """Likewise as masks."""
    waiting = tied_masks(debate)
    met = [union_at(against(debate), part) & ~part for part in waiting]
    taken = 0
    parts = []
    while len(parts) < len(waiting):
        # The parts come by their first names, so the first one that is free has the first name.
        free = [part for part, mets in zip(waiting, met) if not part & taken and lies_in(mets, taken)]
        parts.append(free[0])
        taken = taken | free[0]
    return parts


def tied_masks(debate):
    """The greatest lots that hang together, by their first names."""
    reached = reached_masks(debate)
    found = []
    taken = 0
    for place, reach in enumerate(reached):
        if not taken >> place & 1:
            part = 1 << place
            for other in places_in(reach):
                if reached[other] >> place & 1:
                    part = part | (1 << other)
            found.append(part)
            taken = taken | part
    return found


def reached_masks(debate):
    """For each place all to which objections lead from it, one behind another."""
    reached = list(towards(debate))
    for middle in range(len(debate)):
        for start in range(len(debate)):
            if reached[start] >> middle & 1:
                reached[start] = reached[start] | reached[middle]
    return reached


def labels_by_parts(debate):
    """The list of all labellings, as the lists of their in ones compare."""
    return [labels_at(debate, ins, outs) for ins, outs in marks_by_parts(debate, "whole")]


def lots_by_parts(debate, way):
    """The ascending list of the lots of a way."""
    check_way(way, PART_WAYS)
    return [names_at(debate, ins) for ins, _ in marks_by_parts(debate, way)]


def stands_by_parts(debate, way, statement, how):
    """Whether a statement is in some lot of the way, in all, or in none."""
    check_way(way, PART_WAYS)
    place = place_of(debate, statement)
    check_how(how)
    return stands_among([ins >> place & 1 == 1 for ins, _ in marks_by_parts(debate, way)], how)


def marks_by_parts(debate, way):
    """The labellings of a way as pairs of masks, who is in and who is out, by the lists of the former."""
    rows = [(0, 0)]
    for part in part_masks(debate):
        known = {}
        grown = []
        for ins, outs in rows:
            state = state_of(debate, part, ins, outs)
            if state not in known:
                known[state] = marks_in(debate, part, state, way)
            grown.extend([(ins | more, outs | others) for more, others in known[state]])
        rows = grown
    return sorted(rows, key=lambda row: names_at(debate, row[0]))


def state_of(debate, part, ins, outs):
    """Which members of a part are put out from without, and which are kept from being in."""
    beaten = 0
    barred = 0
    for place in places_in(part):
        outer = against(debate)[place] & ~part
        if outer & ins:
            beaten = beaten | (1 << place)
        if not lies_in(outer, outs):
            barred = barred | (1 << place)
    return (beaten, barred)


def marks_in(debate, part, state, way):
    """The labellings of a part of the way, behind what is so ahead, as pairs of masks."""
    beaten, barred = state
    found = []
    for lot, hits in calm_within(debate, part & ~barred):
        outs = (beaten | hits) & part
        if free_in(debate, part & ~barred, part & ~outs) == lot:
            found.append((lot, outs))
    return kept_of(found, part, way)


def calm_within(debate, places):
    """The calm lots of some places, each with all to which it objects."""
    rows = [(0, 0)]
    for place in places_in(places):
        bit = 1 << place
        hit = towards(debate)[place]
        if not hit & bit:
            rows = rows + [(lot | bit, hits | hit) for lot, hits in rows if not (hits & bit or hit & lot)]
    return rows


def free_in(debate, places, standing):
    """Those of some places to which nothing objects that is standing."""
    free = 0
    for place in places_in(places):
        if not against(debate)[place] & standing:
            free = free | (1 << place)
    return free


def kept_of(rows, part, way):
    """Those of all labellings of a part that are of the way."""
    if way == "whole":
        return rows
    if way == "settled":
        return [(ins, outs) for ins, outs in rows if ins | outs == part]
    lots = [ins for ins, _ in rows]
    if way == "least":
        return [(ins, outs) for ins, outs in rows if all([lies_in(ins, lot) for lot in lots])]
    tops = topmost(lots)
    return [(ins, outs) for ins, outs in rows if ins in tops]
