"""What bars a family from being that of a debate."""

from objections.checks import is_list, names_key
from objections.families import (
    KINDS, check_kind, is_part, lots_among, names_in, pairs_of_lots, pairs_up, read_family,
)

# How many lots stand behind the word of a bar: these alone may be told in another order.
LOTS_BEHIND = {"none": 0, "within": 2, "paired": 1, "taken": 1, "union": 2}


def bar_of(family, kind):
    """The first bar that is so, None if there is none."""
    lots = read_family(family)
    check_kind(kind)
    bars = all_bars(lots, kind)
    return bars[0] if bars else None


def is_bar(family, kind, thing):
    """Whether any object is one of the bars that are so."""
    lots = read_family(family)
    check_kind(kind)
    return read_bar(thing) in all_bars(lots, kind)


def kinds_for(family):
    """The kinds that have a debate with this family."""
    lots = read_family(family)
    return [kind for kind in KINDS if not all_bars(lots, kind)]


def read_bar(thing):
    """Any object as a tuple with ascending lots where a bar has lots, None if it can be none."""
    if not is_list(thing) or not thing or not isinstance(thing[0], str) or thing[0] not in LOTS_BEHIND:
        return None
    behind = 1 + LOTS_BEHIND[thing[0]]
    keys = [names_key(lot) for lot in thing[1:behind]]
    if None in keys:
        return None
    return tuple([thing[0]] + [list(key) for key in keys] + list(thing[behind:]))


def all_bars(lots, kind):
    """All bars of a family that are so, in their order."""
    return (
        none_bars(lots, kind) + within_bars(lots, kind) + paired_bars(lots, kind)
        + taken_bars(lots, kind) + union_bars(lots, kind)
    )


def none_bars(lots, kind):
    """Whether the lots lack that each debate has."""
    if kind == "settled":
        return []
    is_there = [] in lots if kind == "held" else len(lots) > 0
    return [] if is_there else [("none",)]


def within_bars(lots, kind):
    """The lots that lie in others: of calm lots those that lack, else those that are there."""
    if kind == "held":
        return []
    ones = lots
    if kind == "calm":
        ones = [lot for lot in lots_among(names_in(lots)) if lot not in lots]
    pairs = [(one, other) for one in ones for other in lots if one != other and is_part(one, other)]
    return [("within", one, other) for one, other in pairs]


def paired_bars(lots, kind):
    """The lots that pair up and should be there, or lie in one that is."""
    if kind not in ("calm", "tops"):
        return []
    pairs = pairs_of_lots(lots)
    paired = [lot for lot in lots_among(names_in(lots)) if pairs_up(lot, pairs)]
    if kind == "calm":
        return [("paired", lot) for lot in paired if lot not in lots]
    return [("paired", lot) for lot in paired if not any([is_part(lot, other) for other in lots])]


def taken_bars(lots, kind):
    """The lots with a name beside them to which none of their names can object."""
    if kind != "settled":
        return []
    pairs = pairs_of_lots(lots)
    return [
        ("taken", lot, name) for lot in lots for name in names_in(lots)
        if name not in lot and all([(min(name, member), max(name, member)) in pairs for member in lot])
    ]


def union_bars(lots, kind):
    """The two lots whose names together pair up, and are no lot."""
    if kind not in ("held", "greatest"):
        return []
    pairs = pairs_of_lots(lots)
    bars = []
    for place, one in enumerate(lots):
        for other in lots[place + 1:]:
            union = sorted(set(one + other))
            if union not in lots and pairs_up(union, pairs):
                bars.append(("union", one, other))
    return bars
