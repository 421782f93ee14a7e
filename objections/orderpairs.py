"""Pairs of values that audiences keep in their order, and how near audiences are to one another."""

from itertools import combinations
from objections.audiences import all_audiences, check_audience, values_of
from objections.checks import is_list, pair_key
from objections.errors import BadPairs
from objections.forwhom import audiences_for
from objections.masks import places_in


def keeps(audience, pair):
    """Whether the first value of a pair stands ahead of the second one."""
    above, below = pair
    return audience.index(above) < audience.index(below)


def audiences_kept(debate, worths, pairs):
    """The ascending list of the audiences that keep all pairs."""
    values = values_of(debate, worths)
    if not is_list(pairs):
        raise BadPairs(0)
    kept = all_audiences(debate, worths)
    seen = []
    for index, thing in enumerate(pairs):
        pair = pair_key(thing, values, values)
        if pair is None or pair in seen:
            raise BadPairs(index)
        seen.append(pair)
        kept = [audience for audience in kept if keeps(audience, pair)]
        if not kept:
            raise BadPairs(index)
    return kept


def pairs_fault(debate, worths, way, statement, how, pairs):
    """None if a statement stands for all audiences that keep the pairs, else the first for which it does not."""
    right = audiences_for(debate, worths, way, statement, how)
    for audience in audiences_kept(debate, worths, pairs):
        if audience not in right:
            return audience
    return None


def fewest_pairs(debate, worths, way, statement, how):
    """The list of all ascending pairs without such a fault that are as few as can be."""
    right = audiences_for(debate, worths, way, statement, how)
    values = values_of(debate, worths)
    audiences = all_audiences(debate, worths)
    wrong = [audience not in right for audience in audiences]
    pairs = [(above, below) for above in values for below in values if above != below]
    kept_by = {pair: sum([1 << turn for turn, row in enumerate(audiences) if keeps(row, pair)]) for pair in pairs}
    for many in range(len(values)):
        found = [list(row) for row in combinations(pairs, many) if is_right(row, kept_by, wrong)]
        if found:
            return found
    return []


def is_right(pairs, kept_by, wrong):
    """Whether some audience keeps all pairs, and no wrong one does; audiences are places of masks."""
    kept = (1 << len(wrong)) - 1
    for pair in pairs:
        kept = kept & kept_by[pair]
    return kept != 0 and not any([wrong[turn] for turn in places_in(kept)])


def exchanges(debate, worths, one, other):
    """The least number of exchanges of neighbours that lead from one audience to the other."""
    values = values_of(debate, worths)
    check_audience(values, one)
    check_audience(values, other)
    return many_turned(one, other)


def many_turned(one, other):
    """How many two values two audiences set otherwise."""
    return len([
        above for place, above in enumerate(one) for below in one[place + 1:] if not keeps(other, (above, below))
    ])


def nearest(debate, worths, audience, way, statement, how):
    """The least number of exchanges to an audience for which a statement stands, and all such; None if none is."""
    check_audience(values_of(debate, worths), audience)
    right = audiences_for(debate, worths, way, statement, how)
    if not right:
        return None
    least = min([many_turned(audience, other) for other in right])
    return (least, [other for other in right if many_turned(audience, other) == least])
