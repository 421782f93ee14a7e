"""Claims as places of masks: what comes by rules, and what follows from labels of claims."""

from objections.checks import is_word
from objections.errors import BadClaim
from objections.masks import lies_in


def check_claim(known, claim):
    """BadClaim for any object that is no claim."""
    if not is_word(claim, known.claims()):
        raise BadClaim(claim)


def all_claims(known):
    """The mask of all claims."""
    return (1 << len(known.claims())) - 1


def mask_rules(known):
    """The rules as triples of masks, of the head, the body and the unless."""
    bits = {claim: 1 << place for place, claim in enumerate(known.claims())}
    return [
        (bits[head], sum([bits[claim] for claim in body]), sum([bits[claim] for claim in unless]))
        for head, body, unless in known.triples()
    ]


def claims_at(known, mask):
    """The ascending list of the claims of a mask."""
    return [claim for place, claim in enumerate(known.claims()) if mask >> place & 1]


def come_by(rules, absent):
    """All that comes by rules whose unless are all absent."""
    free = [(head, body) for head, body, unless in rules if lies_in(unless, absent)]
    come = 0
    further = heads_from(free, come)
    while further != come:
        come = further
        further = heads_from(free, come)
    return come


def heads_from(free, come):
    """What has come, with the heads of all whose body has."""
    for head, body in free:
        if lies_in(body, come):
            come = come | head
    return come


def rule_of_claims(known):
    """The function from marks to those that follow: out is what does not come even by all that is not in."""
    rules = mask_rules(known)
    full = all_claims(known)

    def rule(marks):
        ins, outs = marks
        return (come_by(rules, outs), full & ~come_by(rules, full & ~ins))

    return rule
