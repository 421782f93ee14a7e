"""Statements that stand by tables of what others do, and labels by these."""

from objections.checks import first_wrong, is_list, is_name, wrong_name
from objections.debates import check_statement
from objections.errors import BadTables
from objections.masks import count_of
from objections.rulemarks import is_labelling_by, labellings_by
from objections.things import Thing


class Tabled(Thing):
    """Statements with their parents, and the rows of truths of these by which they stand; it never changes."""

    def __init__(self, tables):
        index = first_wrong(tables, table_key)
        if index is not None:
            raise BadTables(index)
        names = [name for name, _, _ in tables]
        for index, table in enumerate(tables):
            if not all([parent in names for parent in table[1]]):
                raise BadTables(index)
        self._tables = sorted([told_table(name, parents, rows) for name, parents, rows in tables])

    def tables(self):
        return [(name, parents, list(rows)) for name, parents, rows in self._tables]

    def __eq__(self, other):
        return isinstance(other, Tabled) and self.tables() == other.tables()


def table_key(thing):
    """The name of a triple of a name, unlike names and unlike rows of truths for these, None for any other thing."""
    if not is_list(thing) or len(thing) != 3:
        return None
    name, parents, rows = thing
    if not is_name(name) or wrong_name(parents) is not None:
        return None
    if first_wrong(rows, lambda row: truths_key(row, len(parents))) is not None:
        return None
    return name


def truths_key(thing, many):
    """A list of so many truths as a tuple, None for any other thing."""
    if not is_list(thing) or len(thing) != many or not all([isinstance(truth, bool) for truth in thing]):
        return None
    return tuple(thing)


def told_table(name, parents, rows):
    """The triple with its parents ascending, truths moved with them, and its rows ascending."""
    turns = sorted(range(len(parents)), key=lambda turn: parents[turn])
    moved = [tuple([row[turn] for turn in turns]) for row in rows]
    return (name, tuple(sorted(parents)), sorted(moved))


def names_in_tables(tabled):
    """The ascending list of the statements."""
    return [name for name, _, _ in tabled.tables()]


def table_at(tabled, statement):
    """The parents and the rows of a statement, or NoStatement."""
    check_statement(names_in_tables(tabled), statement)
    return [(parents, rows) for name, parents, rows in tabled.tables() if name == statement][0]


def rule_of_tables(tabled):
    """The function from marks to those that follow by tables."""
    bits = {name: 1 << place for place, name in enumerate(names_in_tables(tabled))}
    tables = []
    for name, parents, rows in tabled.tables():
        known = [bits[parent] for parent in parents]
        masks = [sum([bit for bit, truth in zip(known, row) if truth]) for row in rows]
        tables.append((bits[name], sum(known), masks))

    def rule(marks):
        ins, outs = marks
        more = 0
        others = 0
        for bit, parents, masks in tables:
            decided = (ins | outs) & parents
            fillings = 1 << count_of(parents & ~decided)
            fit = len([mask for mask in masks if mask & decided == ins & parents])
            if fit == 0:
                others = others | bit
            elif fit == fillings:
                more = more | bit
        return (more, others)

    return rule


def is_tabled_labelling(tabled, thing):
    """Whether any object is a labelling by tables."""
    return is_labelling_by(names_in_tables(tabled), rule_of_tables(tabled), thing)


def tabled_labellings(tabled, way):
    """The list of the labellings of the way, dicts, as the lists of their labels compare."""
    return labellings_by(names_in_tables(tabled), rule_of_tables(tabled), way)
