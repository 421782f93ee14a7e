"""Verdicts of judges: who stands for how many, where these clash, and whose silence turns a verdict."""

from itertools import combinations
from objections.benches import merged_among
from objections.debates import Debate, place_of
from objections.judges import check_bench, check_judges, check_quota
from objections.lotmasks import least_mask


def let_stand(bench, statement):
    """How many judges have a statement in their least lots."""
    check_bench(bench)
    return many_letting(bench, statement)


def many_letting(debates, statement):
    """Of how many debates the least lot has a statement, or NoStatement."""
    return len([debate for debate in debates if is_let(debate, statement)])


def is_let(debate, statement):
    """Whether the least lot has a statement."""
    return least_mask(debate) >> place_of(debate, statement) & 1 == 1


def standing_by(bench, quota):
    """The ascending list of the statements that at least quota judges have in their least lots."""
    check_bench(bench)
    check_quota(quota, len(bench))
    return [name for name in bench[0].statements() if many_letting(bench, name) >= quota]


def clash_sure(judges, quota, other):
    """Whether this list, by quota, is always calm in the debate merged by other."""
    check_judges(judges)
    check_quota(quota, judges)
    check_quota(other, judges)
    return other + 2 * quota > 2 * judges


def clash_bench(judges, quota, other):
    """A bench where it is not, None if there is none."""
    if clash_sure(judges, quota, other):
        return None
    names = ["s", "t", "u"]
    # All who put nothing let both stand; of the others some let s stand, the rest answer it, and let t stand.
    putting = max(0, quota - (judges - other))
    alone = [Debate(names, [("s", "t")]) for _ in range(putting)]
    answered = [Debate(names, [("s", "t"), ("u", "s")]) for _ in range(other - putting)]
    return alone + answered + [Debate(names, []) for _ in range(judges - other)]


def stands_without(bench, quota, statement, silent):
    """Whether a statement is in the least lot of the debate merged without the objections of some judges."""
    heard = [debate for judge, debate in enumerate(bench) if judge not in silent]
    return is_let(merged_among(bench[0].statements(), heard, quota), statement)


def check_silencing(bench, quota, statement):
    """The errors of what is passed to both functions below."""
    check_bench(bench)
    check_quota(quota, len(bench))
    place_of(bench[0], statement)


def fewest_silenced(bench, quota, statement):
    """The first of the shortest lists of judges without whose objections a statement is in the merged least lot."""
    check_silencing(bench, quota, statement)
    for many in range(len(bench) + 1):
        for silent in combinations(range(len(bench)), many):
            if stands_without(bench, quota, statement, silent):
                return list(silent)
    return None


def alone_for(bench, quota, statement):
    """The ascending list of the judges without whose objections alone it is otherwise whether it is there."""
    check_silencing(bench, quota, statement)
    stood = stands_without(bench, quota, statement, [])
    judges = list(range(len(bench)))
    return [judge for judge in judges if stands_without(bench, quota, statement, [judge]) != stood]
