"""Audiences that rank the values of statements, and the debates that they hear."""

from itertools import permutations
from objections.checks import is_name, is_word, wrong_word
from objections.debates import Debate, full_mask, mask_at, names_at
from objections.errors import BadAudience, BadValue, BadWorths
from objections.lotmasks import least_mask
from objections.otherdebates import cut_at
from objections.rings import is_ring, ring_within


def values_of(debate, worths):
    """The ascending list of the values of statements, or BadWorths."""
    if not isinstance(worths, dict) or len(worths) != len(debate):
        raise BadWorths(worths)
    for name in debate.statements():
        if name not in worths or not is_name(worths[name]):
            raise BadWorths(worths)
    return sorted(set(list(worths.values())))


def check_audience(values, audience):
    """BadAudience for any object that is no list of all values, each once."""
    index = wrong_word(audience, values)
    if index is None and len(audience) < len(values):
        index = len(audience)
    if index is not None:
        raise BadAudience(index)


def heard_debate(debate, worths, audience):
    """All statements, with the objections that count for an audience."""
    check_audience(values_of(debate, worths), audience)
    return heard_at(debate, worths, audience)


def heard_at(debate, worths, audience):
    """Likewise of an audience that is one."""
    heights = {value: height for height, value in enumerate(reversed(audience))}
    return Debate(debate.statements(), [
        (one, other) for one, other in debate.objections() if heights[worths[one]] >= heights[worths[other]]
    ])


def all_audiences(debate, worths):
    """The ascending list of all audiences."""
    values = values_of(debate, worths)
    return [list(row) for row in permutations(values)]


def value_ring(debate, worths):
    """A ring of statements of one value, None if there is none."""
    values_of(debate, worths)
    alike = [(one, other) for one, other in debate.objections() if worths[one] == worths[other]]
    return ring_within(Debate(debate.statements(), alike), full_mask(debate))


def is_value_ring(debate, worths, thing):
    """Whether any object is such a ring."""
    values_of(debate, worths)
    return is_ring(debate, thing) and len(set([worths[name] for name in thing])) == 1


def raised(debate, worths, audience, value):
    """The audience in which a value is the highest one, all else as it was."""
    values = values_of(debate, worths)
    check_audience(values, audience)
    if not is_word(value, values):
        raise BadValue(value)
    return [value] + [other for other in audience if other != value]


def stands_raised(debate, worths):
    """The ascending list of who is in the least lot of the debate cut to the statements of its value."""
    found = []
    for value in values_of(debate, worths):
        like = cut_at(debate, mask_at(debate, [name for name in debate.statements() if worths[name] == value]))
        found.extend(names_at(like, least_mask(like)))
    return sorted(found)
