"""What callers pass of judges: benches, how many there are, quotas, and rules by which they are merged."""

from objections.checks import is_function, is_list, is_number
from objections.debates import Debate
from objections.errors import BadBench, BadJudges, BadQuota, BadRule, NoTruth


def check_bench(bench):
    """BadBench for any object that is no list, not empty, of debates with the same statements."""
    if not is_list(bench) or len(bench) == 0:
        raise BadBench(0)
    for index, thing in enumerate(bench):
        if not isinstance(thing, Debate) or thing.statements() != bench[0].statements():
            raise BadBench(index)


def check_judges(judges):
    """BadJudges for any object that is no integer from 1 on."""
    if not is_number(judges) or judges == 0:
        raise BadJudges(judges)


def check_quota(quota, judges):
    """BadQuota for any object that is no integer from 1 to so many."""
    if not is_number(quota) or not 1 <= quota <= judges:
        raise BadQuota(quota)


def check_rule(rule):
    """BadRule for any object that is no function."""
    if not is_function(rule):
        raise BadRule(rule)


def ask_rule(rule, truths):
    """What a rule tells of truths, judge by judge, or NoTruth."""
    told = rule(truths)
    if not isinstance(told, bool):
        raise NoTruth(told)
    return told
