"""Pairs of rules, by which it is told whether rules do the same whatever other ones are put beside."""

from objections.checks import is_list
from objections.claimmasks import all_claims, claims_at, mask_rules
from objections.errors import UnlikeClaims
from objections.masks import lies_in, parts_within
from objections.readings import readings
from objections.rules import is_rule, with_rules


def pairs_of(known):
    """The ascending list of all pairs."""
    rules = mask_rules(known)
    found = []
    for there in parts_within(all_claims(known)):
        free = [(head, body) for head, body, unless in rules if not unless & there]
        if has_heads(free, there):
            found.extend([(here, there) for here in parts_within(there) if has_heads(free, here)])
    return sorted([(tuple(claims_at(known, here)), tuple(claims_at(known, there))) for here, there in found])


def has_heads(free, mask):
    """Whether a mask has the head of each whose body it has."""
    return all([head & mask or not lies_in(body, mask) for head, body in free])


def check_like_claims(one, other):
    """UnlikeClaims for rules that have not the same claims."""
    if one.claims() != other.claims():
        raise UnlikeClaims()


def parting_rules(one, other):
    """Rules without unless with which both have unlike settled readings, None if there are none."""
    check_like_claims(one, other)
    pairs = pairs_of(one)
    others = pairs_of(other)
    apart = [pair for pair in pairs if pair not in others] + [pair for pair in others if pair not in pairs]
    full = [there for here, there in apart if here == there]
    if full:
        # With its claims as facts it is a settled reading of that one alone of which it is a pair.
        return [(claim, (), ()) for claim in full[0]]
    if not apart:
        return None
    here, there = apart[0]
    rest = [claim for claim in there if claim not in here]
    # Any claim of the rest brings all: here stays a pair where it is one, and nothing else is between.
    bound = [(head, (claim,), ()) for head in rest for claim in rest if head != claim]
    return [(claim, (), ()) for claim in here] + bound


def is_parting(one, other, thing):
    """Whether any object is a list of rules with which both have unlike settled readings."""
    check_like_claims(one, other)
    if not is_list(thing) or not all([is_rule(one.claims(), rule) for rule in thing]):
        return False
    return readings(with_rules(one, thing), "settled") != readings(with_rules(other, thing), "settled")
