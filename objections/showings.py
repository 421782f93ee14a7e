"""Showings: steps by which it is told that all readings have a claim in, or out."""

from objections.checks import is_index, is_list, is_word, wrong_word
from objections.claimmasks import all_claims, check_claim, claims_at, come_by, mask_rules
from objections.masks import first_place, lies_in
from objections.readings import readings


def is_showing(known, claim, thing):
    """Whether any object is a showing of a claim."""
    check_claim(known, claim)
    if not is_list(thing) or len(thing) == 0:
        return False
    ins = []
    outs = []
    for step in thing:
        shown = shown_in(known, step, ins, outs)
        gone = shown_out(known, step, ins, outs)
        if not shown and not gone:
            return False
        ins.extend(shown)
        outs.extend(gone)
    return claim in shown or claim in gone


def shown_in(known, step, ins, outs):
    """The list of what any object shows in as a step, behind what is shown ahead; [] if it does not."""
    if not is_list(step) or len(step) != 3 or not is_word(step[0], ["in"]):
        return []
    _, claim, index = step
    rules = known.triples()
    if not is_index(index, len(rules)):
        return []
    head, body, unless = rules[index]
    is_right = head == claim and all([one in ins for one in body]) and all([one in outs for one in unless])
    return [head] if is_right else []


def shown_out(known, step, ins, outs):
    """Likewise of what it shows out."""
    if not is_list(step) or len(step) != 2 or not is_word(step[0], ["out"]):
        return []
    lot = step[1]
    if wrong_word(lot, known.claims()) is not None:
        return []
    for head, body, unless in known.triples():
        is_barred = any([one in outs or one in lot for one in body]) or any([one in ins for one in unless])
        if head in lot and not is_barred:
            return []
    return list(lot)


def showing_of(known, claim):
    """A showing of a claim, None if there is none."""
    check_claim(known, claim)
    rules = mask_rules(known)
    bit = 1 << known.claims().index(claim)
    ins = 0
    outs = 0
    steps = []
    while not (ins | outs) & bit:
        index = next_rule(rules, ins, outs)
        lot = all_claims(known) & ~(outs | come_by(rules, all_claims(known) & ~ins))
        if index is not None:
            head = rules[index][0]
            ins = ins | head
            steps.append(("in", known.claims()[first_place(head)], index))
        elif lot:
            outs = outs | lot
            steps.append(("out", claims_at(known, lot)))
        else:
            return None
    return steps


def next_rule(rules, ins, outs):
    """The index of the first rule that shows a further claim in, None if there is none."""
    for index, (head, body, unless) in enumerate(rules):
        if not head & ins and lies_in(body, ins) and lies_in(unless, outs):
            return index
    return None


def undecided_in(known, claim):
    """A reading in which a claim is undecided, None if there is none."""
    check_claim(known, claim)
    # What the least reading decides all readings have so.
    reading = readings(known, "least")[0]
    return reading if reading[claim] == "undecided" else None
