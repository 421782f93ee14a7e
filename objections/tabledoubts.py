"""Ranks of statements that stand by tables, and the doubts of those that have none."""

from objections.checks import is_list, is_word
from objections.debates import check_statement
from objections.marks import rows_of
from objections.rulemarks import marks_in_turn
from objections.tables import names_in_tables, rule_of_tables, table_at, truths_key


def tabled_rank(tabled, statement):
    """How often all was gone through ahead of when a statement was decided, and how; None if it never is."""
    names = names_in_tables(tabled)
    check_statement(names, statement)
    bit = 1 << names.index(statement)
    for number, (ins, outs) in enumerate(marks_in_turn(rule_of_tables(tabled))):
        if (ins | outs) & bit:
            return (number, "in" if ins & bit else "out")
    return None


def least_truths(tabled):
    """The dict from those that the least labelling decides to whether they are in."""
    ins, outs = marks_in_turn(rule_of_tables(tabled))[-1]
    names = names_in_tables(tabled)
    return {name: ins >> place & 1 == 1 for place, name in enumerate(names) if (ins | outs) >> place & 1}


def tabled_doubt(tabled, statement):
    """A doubt with a statement as a key, None if there is none."""
    names = names_in_tables(tabled)
    check_statement(names, statement)
    known = least_truths(tabled)
    if statement in known:
        return None
    return {name: first_rows(tabled, name, known) for name in names if name not in known}


def first_rows(tabled, statement, known):
    """The first row by the known truths that is one of a statement, and the first that is none."""
    parents, rows = table_at(tabled, statement)
    fit = [row for row in rows_of((False, True), len(parents)) if goes_by(row, parents, known)]
    return ([row for row in fit if row in rows][0], [row for row in fit if row not in rows][0])


def goes_by(row, parents, known):
    """Whether a row has the known truths of those parents of which one is known."""
    return all([parent not in known or known[parent] == truth for parent, truth in zip(parents, row)])


def is_tabled_doubt(tabled, thing):
    """Whether any object is a doubt."""
    if not isinstance(thing, dict) or not thing:
        return False
    names = names_in_tables(tabled)
    if not all([is_word(name, names) for name in thing]):
        return False
    known = least_truths(tabled)
    return all([is_doubtful(table_at(tabled, name), thing[name], thing, known) for name in thing])


def is_doubtful(table, thing, doubt, known):
    """Whether any object is a pair of a row of a table and one that is none, alike by known truths but for keys."""
    parents, rows = table
    if not is_list(thing) or len(thing) != 2:
        return False
    row, other = [truths_key(part, len(parents)) for part in thing]
    if row is None or other is None or row not in rows or other in rows:
        return False
    firm = [place for place, parent in enumerate(parents) if parent not in doubt]
    return all([parents[place] in known for place in firm]) and all([
        row[place] == known[parents[place]] and other[place] == known[parents[place]] for place in firm
    ])
