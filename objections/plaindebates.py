"""Debates in which further statements say what conditions and needs say."""

from objections.debates import Debate
from objections.freshnames import fresh_names


def plain_debate(statements, objections, needs, word_for):
    """The pair of a debate and the dict, ascending, from its further statements to what they say.

    objections are pairs of a condition, (ins, outs), and the statement against which it is; word_for tells what the
    further statement of a condition says.
    """
    conditions = sorted({condition for condition, _ in objections})
    denied = sorted(set([name for ins, _ in conditions for name in ins] + [other for _, other in needs]))
    words = [("not", name) for name in denied] + [word_for(ins, outs) for ins, outs in conditions]
    fresh = fresh_names(statements, len(words))
    nots = dict(zip(denied, fresh))
    named = dict(zip(conditions, fresh[len(denied):]))
    pairs = [(name, nots[name]) for name in denied]
    pairs.extend([(nots[other], one) for one, other in needs])
    for condition, name in named.items():
        ins, outs = condition
        pairs.extend([(nots[member], name) for member in ins] + [(member, name) for member in outs])
    pairs.extend([(named[condition], other) for condition, other in objections])
    told = dict(zip(fresh, words))
    return (Debate(statements + fresh, pairs), {name: told[name] for name in sorted(told)})
