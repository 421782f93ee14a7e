"""Chances of what is there, and of verdicts; and the fewest questions on the average."""

from math import gcd
from objections.checks import is_integer, is_list
from objections.errors import BadChances
from objections.masks import places_in
from objections.questions import has_thing, is_told, splits_of, verdicts_of
from objections.unsure import fillings


def check_chances(unsure, chances):
    """BadChances for any object that is no dict from just all things to fractions."""
    things = unsure.things()
    if not isinstance(chances, dict) or len(chances) != len(things):
        raise BadChances(chances)
    if not all([thing in chances and is_fraction(chances[thing]) for thing in things]):
        raise BadChances(chances)


def is_fraction(thing):
    """Whether any object is a fraction from none to one."""
    if not is_list(thing) or len(thing) != 2 or not all([is_integer(part) for part in thing]):
        return False
    top, bottom = thing
    return bottom >= 1 and 0 <= top <= bottom


def lowest(top, bottom):
    """A fraction in lowest terms."""
    common = gcd(top, bottom)
    return (top // common, bottom // common)


def weight_of(filling, chances):
    """How likely a filling is, as a share of the product of all bottoms."""
    names = filling.statements()
    weight = 1
    for thing, fraction in chances.items():
        top, bottom = fraction
        if has_thing(filling, thing):
            weight = weight * top
        elif isinstance(thing, str) or thing[0] in names and thing[1] in names:
            weight = weight * (bottom - top)
        else:
            # Without both its ends an objection is not there, whatever its chance.
            weight = weight * bottom
    return weight


def chances_told(unsure, chances, judge):
    """The dict, ascending, from verdicts to their chances, in lowest terms, those above 0."""
    check_chances(unsure, chances)
    found = fillings(unsure)
    weights = [weight_of(filling, chances) for filling in found]
    sums = {}
    for verdict, weight in zip(verdicts_of(found, judge), weights):
        sums[verdict] = sums.get(verdict, 0) + weight
    return {verdict: lowest(sums[verdict], sum(weights)) for verdict in sorted(sums) if sums[verdict] > 0}


def fewest_on_average(unsure, chances, judge):
    """The least mean number of questions of right trees, in lowest terms."""
    check_chances(unsure, chances)
    found = fillings(unsure)
    verdicts = verdicts_of(found, judge)
    weights = [weight_of(filling, chances) for filling in found]
    needed = weight_needed((1 << len(found)) - 1, splits_of(unsure, found), verdicts, weights, {})
    return lowest(needed, sum(weights))


def weight_needed(mask, splits, verdicts, weights, known):
    """The least sum, over the fillings of a mask, of weights times questions; known keeps what was worked out."""
    if mask not in known:
        known[mask] = 0
        if not is_told(mask, verdicts):
            known[mask] = sum([weights[place] for place in places_in(mask)]) + min([
                weight_needed(mask & has, splits, verdicts, weights, known)
                + weight_needed(mask & ~has, splits, verdicts, weights, known)
                for _, has in splits if mask & has and mask & ~has
            ])
    return known[mask]
