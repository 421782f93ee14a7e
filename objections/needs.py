"""Needs that rest: how deep they go, and what keeps members of a lot from resting."""

from objections.lotmasks import check_lot


def need_ranks(grouped, lot):
    """The dict, ascending, from the members of a lot to how deep their needs go, None where they do not rest."""
    needed = needed_by(grouped, lot)
    ranks = {}
    number = 0
    resting = resting_on(needed, ranks)
    while resting:
        for name in resting:
            ranks[name] = number
        number = number + 1
        resting = resting_on(needed, ranks)
    return {name: ranks.get(name) for name in needed}


def unrested(grouped, lot):
    """The dict, ascending, from the members that do not rest to the first thing needed that keeps them from it."""
    needed = needed_by(grouped, lot)
    ranks = need_ranks(grouped, lot)
    return {
        name: [other for other in needed[name] if ranks.get(other) is None][0]
        for name in needed if ranks[name] is None
    }


def needed_by(grouped, lot):
    """The dict, ascending, from the members of a lot to the ascending lists of what they need."""
    statements, _, needs = grouped.parts()
    check_lot(statements, lot)
    return {name: [other for one, other in needs if one == name] for name in sorted(lot)}


def resting_on(needed, ranks):
    """Who has no rank yet, and needs but what has one."""
    return [name for name in needed if name not in ranks and all([other in ranks for other in needed[name]])]
