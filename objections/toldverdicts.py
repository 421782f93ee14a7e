"""Verdicts on tables of statements, and the debates that are told back from these."""

from itertools import combinations
from objections.checks import is_function, wrong_name
from objections.debates import Debate
from objections.errors import BadJudge, BadLot, BadNames, BadVerdict, NoDebate
from objections.lotmasks import lot_mask
from objections.marks import labels_by, read_marks
from objections.otherdebates import cut_at
from objections.partmarks import least_of


def verdict(debate, table):
    """The labels of the statements of a table, by the least lot of the debate cut to it."""
    mask = lot_mask(debate, table)
    if mask == 0:
        raise BadLot(0)
    cut = cut_at(debate, mask)
    return labels_by(cut.statements(), least_of(cut))


def is_idle(pairs, one, other):
    """Whether an objection tells no judge more: its target objects to itself, and one does so or is met by it."""
    return one != other and (other, other) in pairs and ((one, one) in pairs or (other, one) in pairs)


def least_twin(debate):
    """The twin with fewest objections."""
    pairs = debate.objections()
    return Debate(debate.statements(), [(one, other) for one, other in pairs if not is_idle(pairs, one, other)])


def are_twins(one, other):
    """Whether two debates have the same verdict on each table."""
    return least_twin(one) == least_twin(other)


def check_names(names):
    """BadNames for any object that is no list of unlike names."""
    if wrong_name(names) is not None:
        raise BadNames(names)


def told_back(names, judge):
    """The least twin that has the judge's verdicts on all tables of one and of two statements."""
    check_names(names)
    if not is_function(judge):
        raise BadJudge(judge)
    known = sorted(names)
    records = []
    for many in range(1, 3):
        for table in combinations(known, many):
            records.append((list(table), asked_verdict(judge, table)))
    pairs = []
    for table, told in records:
        further = pairs_telling(table, told, pairs)
        if further is None:
            raise NoDebate(records)
        pairs.extend(further)
    return Debate(names, pairs)


def asked_verdict(judge, table):
    """What a judge tells of a table, ascending, or BadVerdict."""
    told = judge(table)
    if read_marks(table, told) is None:
        raise BadVerdict(table, told)
    return {name: told[name] for name in table}


def pairs_telling(table, told, pairs):
    """The objections between all of a table, besides known ones to themselves, that make a verdict; None if none do.

    Of those that make the same verdict these are the fewest, so none of them is idle.
    """
    loops = [(name, name) for name in table if (name, name) in pairs]
    one = table[0]
    other = table[-1]
    choices = [[], [(one, one)]] if one == other else [[], [(one, other)], [(other, one)], [(one, other), (other, one)]]
    for further in choices:
        if verdict(Debate(table, loops + further), table) == told:
            return further
    return None
