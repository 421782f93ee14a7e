"""Arguments: claims with what has to be absent for them; and the debate that these make."""

from objections.claimmasks import check_claim, claims_at, come_by, mask_rules
from objections.debates import Debate
from objections.errors import BadReading
from objections.labels import labels_of
from objections.masks import count_of, lies_in, parts_within, places_in
from objections.readings import is_reading


def support_masks(known):
    """The masks of the supports of each claim, by places."""
    rules = mask_rules(known)
    some = 0
    for _, _, unless in rules:
        some = some | unless
    found = [[] for _ in known.claims()]
    # Fewer claims come first, so what lies in a later mask is known by then.
    for absent in sorted(parts_within(some), key=count_of):
        for place in places_in(come_by(rules, absent)):
            if not any([lies_in(mask, absent) for mask in found[place]]):
                found[place].append(absent)
    return found


def supports(known, claim):
    """The ascending list of all supports of a claim."""
    check_claim(known, claim)
    masks = support_masks(known)[known.claims().index(claim)]
    return sorted([claims_at(known, mask) for mask in masks])


def arguments(known):
    """The ascending list of all pairs of a claim and a support of it."""
    masks = support_masks(known)
    return sorted([
        (claim, tuple(claims_at(known, mask))) for place, claim in enumerate(known.claims()) for mask in masks[place]
    ])


def named_arguments(known):
    """The dict from statements to the arguments for which they stand, in the order of these."""
    return {f"s{number}": argument for number, argument in enumerate(arguments(known))}


def debate_of(known):
    """The debate in which arguments object to those whose support has their claim."""
    named = named_arguments(known)
    leading = {claim: [] for claim in known.claims()}
    for other, (_, support) in named.items():
        for claim in support:
            leading[claim].append(other)
    return Debate(list(named), [(one, other) for one, (claim, _) in named.items() for other in leading[claim]])


def reading_of(known, lot):
    """The reading that a whole lot of this debate tells."""
    labels = labels_of(debate_of(known), lot)
    told = {claim: [] for claim in known.claims()}
    for name, (claim, _) in named_arguments(known).items():
        told[claim].append(labels[name])
    return {claim: best_label(told[claim]) for claim in told}


def best_label(labels):
    """The label of a claim by those of all its arguments."""
    if "in" in labels:
        return "in"
    return "undecided" if "undecided" in labels else "out"


def lot_behind(known, reading):
    """The lot of the statements whose support is all out by a reading."""
    if not is_reading(known, "whole", reading):
        raise BadReading(reading)
    named = named_arguments(known)
    return sorted([name for name in named if all([reading[claim] == "out" for claim in named[name][1]])])
