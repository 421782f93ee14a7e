"""Lists of judges that win by a rule, those that have no judge in common, and the rings that these allow."""

from itertools import combinations
from objections.benches import links_round
from objections.checks import is_number
from objections.debates import Debate, full_mask
from objections.errors import BadMany
from objections.judges import ask_rule, check_judges, check_rule
from objections.rings import ring_within


def winning_lots(rule, judges):
    """The list of all lists of judges that win, fewer judges first."""
    check_rule(rule)
    check_judges(judges)
    lots = []
    for many in range(judges + 1):
        for lot in combinations(range(judges), many):
            if ask_rule(rule, tuple([judge in lot for judge in range(judges)])):
                lots.append(list(lot))
    return lots


def vetoers(rule, judges):
    """The ascending list of the judges in all winning lots."""
    return in_all(winning_lots(rule, judges), judges)


def in_all(lots, judges):
    """The judges that are in all of some lots, all judges of none."""
    return [judge for judge in range(judges) if all([judge in lot for lot in lots])]


def fewest_apart(rule, judges):
    """The first of the shortest lists of winning lots without a common judge, None if there is none."""
    lots = winning_lots(rule, judges)
    if in_all(lots, judges):
        return None
    # Some lot lacks each judge, so no more lots are needed than there are judges.
    for many in range(1, judges + 1):
        for row in combinations(lots, many):
            if not any([all([judge in lot for lot in row]) for judge in row[0]]):
                return list(row)
    return None


def is_ringless(debate):
    """Whether no row of objections leads from a statement to itself."""
    return ring_within(debate, full_mask(debate)) is None


def ring_bench(rule, judges, many):
    """A bench of ringless debates of many statements that a rule merges into one with a ring, None if there is none."""
    lots = fewest_apart(rule, judges)
    if not is_number(many) or many == 0:
        raise BadMany(many)
    if lots is None or len(lots) > many:
        return None
    names = [f"a{number}" for number in range(many)]
    # Each link of the ring is put by a winning lot, the last one as often as links are left.
    putting = lots + [lots[-1] for _ in range(many - len(lots))]
    links = list(zip(links_round(names), putting))
    return [Debate(names, [link for link, lot in links if judge in lot]) for judge in range(judges)]
