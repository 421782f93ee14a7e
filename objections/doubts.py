"""Doubts: dicts by which it is told that statements have no rank."""

from objections.checks import is_word
from objections.debates import against, full_mask, is_statement, name_at, objectors, place_of
from objections.lotmasks import least_mask
from objections.masks import count_of, lies_in, places_in


def is_doubt(debate, statement, thing):
    """Whether any object is a doubt of which the statement is a member."""
    place_of(debate, statement)
    if not isinstance(thing, dict) or statement not in thing:
        return False
    return all([is_statement(debate, member) for member in thing]) and all([
        is_word(objector, objectors(debate, member)) and all([name in thing for name in objectors(debate, objector)])
        for member, objector in thing.items()
    ])


def greatest_doubt(debate):
    """The doubt of just all statements without a rank, {} if there are none."""
    return doubt_of(debate, full_mask(debate) & ~least_mask(debate))


def smallest_doubt(debate, statement):
    """A doubt with this member, of as few members as can be, None if there is none."""
    place = place_of(debate, statement)
    rankless = full_mask(debate) & ~least_mask(debate)
    if not rankless >> place & 1:
        return None
    return doubt_of(debate, fewest_members(debate, place, rankless))


def doubt_of(debate, members):
    """The doubt of these members, each with its first objector that may stand in it."""
    return {
        name_at(debate, place): name_at(debate, fit_objectors(debate, place, members)[0])
        for place in places_in(members)
    }


def fit_objectors(debate, place, members):
    """The objectors at a place all of whose own objectors are members, ascending."""
    met = against(debate)
    return [objector for objector in places_in(met[place]) if lies_in(met[objector], members)]


def fewest_members(debate, place, rankless):
    """The members of a smallest doubt: lots are grown by what they lack, those with fewer members first."""
    levels = [[] for _ in range(len(debate) + 1)]
    levels[1].append(1 << place)
    for many in range(1, len(debate) + 1):
        lots = sorted(set(levels[many]))
        for members in lots:
            unfit = [member for member in places_in(members) if not fit_objectors(debate, member, members)]
            if not unfit:
                return members
            for objector in fit_objectors(debate, unfit[0], rankless):
                grown = members | against(debate)[objector]
                levels[count_of(grown)].append(grown)
    return rankless
