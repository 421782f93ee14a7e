"""Many small benches and rules, and what section 13 says of them, done step by step."""

import functools
import itertools
import random

from objections.debates import Debate
from tests.helper import all_debates, any_objects, drawn_debates, lots_by_words, not_lists


def rule_from(answers):
    """The rule by a dict from tuples of truths."""
    return lambda truths: answers[truths]


def all_rules(judges):
    """Each rule for so many judges, as a dict."""
    rows = list(itertools.product([False, True], repeat=judges))
    return [dict(zip(rows, told)) for told in itertools.product([False, True], repeat=len(rows))]


def drawn_rule_dicts(judges, many, seed):
    """So many rules, drawn alike each time; few lots win by some of them."""
    draw = random.Random(seed)
    rows = list(itertools.product([False, True], repeat=judges))
    found = []
    for _ in range(many):
        share = draw.choice([0.1, 0.3, 0.6, 0.9])
        found.append({row: draw.random() < share for row in rows})
        least = draw.randint(1, judges)
        found.append({row: sum(row) >= least and draw.random() < 0.8 for row in rows})
    return found


def by_quota(quota):
    return lambda truths: sum(truths) >= quota


def winning_by_words(answers, judges):
    """The winning lists of judges, fewer judges first."""
    lots = [[judge for judge in range(judges) if row[judge]] for row, told in answers.items() if told]
    return sorted(lots, key=lambda lot: (len(lot), lot))


def quota_merged(bench, quota):
    pairs = itertools.product(bench[0].statements(), repeat=2)
    putting = [debate.objections() for debate in bench]
    return Debate(bench[0].statements(), [pair for pair in pairs if sum(pair in put for put in putting) >= quota])


def rule_merged(bench, answers):
    pairs = itertools.product(bench[0].statements(), repeat=2)
    putting = [debate.objections() for debate in bench]
    return Debate(bench[0].statements(), [pair for pair in pairs if answers[tuple(pair in put for put in putting)]])


def has_ring(debate):
    """Whether objections lead from a statement to itself: each step of a row, as long as it can be."""
    ahead = {(one, other) for one, other in debate.objections()}
    for _ in debate.statements():
        ahead |= {(one, last) for one, other in ahead for first, last in debate.objections() if first == other}
    return any(one == other for one, other in ahead)


@functools.lru_cache(maxsize=None)
def ringless_debates(many):
    return [debate for debate in all_debates([f"a{at}" for at in range(many)]) if not has_ring(debate)]


def drawn_benches(many, size, seed):
    """So many benches of two to four judges, drawn alike each time."""
    draw = random.Random(seed)
    debates = drawn_debates(4 * many, size, seed)
    found = []
    for turn in range(many):
        found.append(debates[4 * turn:4 * turn + draw.randint(1, 4)])
    return found


def many_benches():
    """Benches of two, three and four statements, and some odd ones."""
    empty = Debate([], [])
    return [[empty], [empty, empty], [Debate(["a"], [("a", "a")])]] + drawn_benches(40, 2, 500) + drawn_benches(
        40, 3, 501) + drawn_benches(25, 4, 502)


def in_least(debate, statement):
    return statement in lots_by_words(debate, "least")[0]


def majority_bench():
    """Three judges round a ring of three statements, each lacking one objection."""
    names = ["a0", "a1", "a2"]
    rows = [[0, 1], [1, 2], [2, 0]]
    return [Debate(names, [(names[at], names[(at + 1) % 3]) for at in row]) for row in rows]


def odd_benches(bench):
    """Pairs of what is no bench, made with the debates of one, and the index that is told of it."""
    statements = bench[0].statements()
    odd = [(thing, 0) for thing in not_lists() + [[], ()]]
    for thing in any_objects() + [Debate(statements + ["zz"], []), Debate(statements[1:], []), [bench[0]]]:
        odd += [([thing, bench[0]], 0)] if not isinstance(thing, Debate) else []
        odd += [(bench + [thing, None], len(bench))]
    return odd
