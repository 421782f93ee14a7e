"""Which ways of lots are kept when judges are merged, and benches where they are not."""

from objections.debates import Debate
from objections.judges import check_judges, check_quota
from objections.lotmasks import WAYS, check_way


def is_kept(way, judges, quota):
    """Whether a lot of the way for each of so many judges is always so in the merged debate, too."""
    check_way(way, WAYS)
    check_judges(judges)
    check_quota(quota, judges)
    if way == "calm" or judges == 1:
        return True
    return quota == 1 and way in ("held", "settled")


def spoiling_bench(way, judges, quota):
    """A bench, and a lot that is of the way for each of its judges but not merged; None if there is none."""
    if is_kept(way, judges, quota):
        return None
    return answered_by_one_each(judges) if quota > 1 else answered_by_all_together(judges)


def answered_by_one_each(judges):
    """Each judge lets another one object to the only objector, so by a greater quota nobody does."""
    others = [f"x{judge}" for judge in range(judges)]
    lot = sorted(["s"] + others)
    return ([Debate(["o"] + lot, [("o", "s"), (other, "o")]) for other in others], lot)


def answered_by_all_together(judges):
    """Some judge lets each objector be answered, none both of them; together they are."""
    names = ["m", "o", "p", "t"]
    loops = [("o", "o"), ("p", "p")]
    first = Debate(names, loops + [("o", "t"), ("m", "p")])
    other = Debate(names, loops + [("p", "t"), ("m", "o")])
    return ([first] + [other for _ in range(judges - 1)], ["m"])
