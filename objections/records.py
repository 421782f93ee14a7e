"""Records of verdicts, the debates that fit these, and records that no debate fits."""

from itertools import combinations
from objections.checks import is_list, wrong_word
from objections.debates import Debate
from objections.errors import BadRecords
from objections.marks import read_marks
from objections.toldverdicts import check_names, is_idle, verdict


def read_records(names, records):
    """The records as pairs of a list and a dict, both ascending; or BadNames, BadRecords."""
    check_names(names)
    if not is_list(records):
        raise BadRecords(0)
    read = []
    for index, thing in enumerate(records):
        if not is_record(names, thing):
            raise BadRecords(index)
        table = sorted(thing[0])
        read.append((table, {name: thing[1][name] for name in table}))
    return read


def is_record(names, thing):
    """Whether any object is a pair of a table of names and a verdict on it."""
    if not is_list(thing) or len(thing) != 2:
        return False
    table, told = thing
    return wrong_word(table, names) is None and len(table) > 0 and read_marks(table, told) is not None


def least_twins(names):
    """All debates of some names that are their own least twins: fewer objections first, then as these compare."""
    known = sorted(names)
    rows = [[]]
    for name in known:
        rows = [row + further for row in rows for further in ([], [(name, name)])]
    for one, other in combinations(known, 2):
        rows = [row + further for row in rows for further in choices_between(row, one, other)]
    rows = sorted([sorted(row) for row in rows])
    return [Debate(names, row) for row in sorted(rows, key=len)]


def choices_between(row, one, other):
    """The lists of objections between two statements none of which is idle beside those of a row."""
    choices = [[], [(one, other)], [(other, one)], [(one, other), (other, one)]]
    return [
        further for further in choices if not any([is_idle(row + further, first, last) for first, last in further])
    ]


def fits(debate, records):
    """Whether a debate has the verdicts of some records."""
    return all([verdict(debate, table) == told for table, told in records])


def fitting(names, records):
    """The list of all least twins that fit, fewer objections first."""
    read = read_records(names, records)
    return [debate for debate in least_twins(names) if fits(debate, read)]


def sure_objections(names, records):
    """The ascending list of the pairs that all debates that fit have."""
    found = [debate.objections() for debate in fitting(names, records)]
    return [pair for pair in pairs_among(names) if all([pair in pairs for pairs in found])]


def pairs_among(names):
    """The ascending list of all pairs of some names."""
    known = sorted(names)
    return [(one, other) for one in known for other in known]


def possible_objections(names, records):
    """The ascending list of the pairs that some debate that fits has."""
    found = [debate.objections() for debate in fitting(names, records)]
    # What tells no judge more may be there, too.
    return [
        (one, other) for one, other in pairs_among(names)
        if any([(one, other) in pairs or is_idle(pairs, one, other) for pairs in found])
    ]


def record_clash(names, records):
    """The first of the shortest lists of indexes of records that fit no debate, None if all fit one."""
    read = read_records(names, records)
    twins = least_twins(names)
    # The bit of a place is set if the twin there fits.
    masks = [sum([1 << place for place, debate in enumerate(twins) if fits(debate, [record])]) for record in read]
    for many in range(1, len(read) + 1):
        for row in combinations(range(len(read)), many):
            if not common_mask([masks[index] for index in row]):
                return list(row)
    return None


def common_mask(masks):
    """What some masks, one at least, all have."""
    common = masks[0]
    for mask in masks:
        common = common & mask
    return common
