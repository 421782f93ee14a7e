"""Benches: judges who put objections between the same statements, merged into one debate."""

from objections.checks import wrong_word
from objections.debates import Debate
from objections.errors import BadRing
from objections.judges import ask_rule, check_bench, check_quota, check_rule


def many_putting(debates):
    """The dict from the objections that some of debates have to how many have them."""
    many = {}
    for debate in debates:
        for pair in debate.objections():
            many[pair] = many.get(pair, 0) + 1
    return many


def merged(bench, quota):
    """The debate with the objections that at least quota judges put."""
    check_bench(bench)
    check_quota(quota, len(bench))
    return merged_among(bench[0].statements(), bench, quota)


def merged_among(statements, debates, quota):
    """The debate of some statements with the objections that at least quota of debates have."""
    many = many_putting(debates)
    return Debate(statements, [pair for pair in many if many[pair] >= quota])


def merged_by(bench, rule):
    """The debate with the objections of which a rule says True."""
    check_bench(bench)
    check_rule(rule)
    names = bench[0].statements()
    putting = [many_putting([debate]) for debate in bench]
    told = {}
    kept = []
    for pair in [(one, other) for one in names for other in names]:
        truths = tuple([pair in put for put in putting])
        if truths not in told:
            told[truths] = ask_rule(rule, truths)
        if told[truths]:
            kept.append(pair)
    return Debate(names, kept)


def thin_link(bench, quota, ring):
    """The first objection of a ring that fewer than quota judges put, None if there is none."""
    check_bench(bench)
    check_quota(quota, len(bench))
    index = wrong_word(ring, bench[0].statements())
    if index is not None or len(ring) == 0:
        raise BadRing(index or 0)
    many = many_putting(bench)
    for pair in links_round(ring):
        if many.get(pair, 0) < quota:
            return pair
    return None


def links_round(ring):
    """The pairs of each of some statements and the next one, of the last one and the first."""
    names = list(ring)
    return list(zip(names, names[1:] + names[:1]))
