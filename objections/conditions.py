"""What speaks against statements that stand by tables, and debates and groups made of it."""

from objections.groups import Grouped
from objections.marks import LABELS, least_rows, rows_of
from objections.plaindebates import plain_debate
from objections.tables import names_in_tables, table_at


def conditions(tabled, statement):
    """The ascending list of all least conditions against a statement."""
    parents, rows = table_at(tabled, statement)
    barring = [
        labels for labels in rows_of(LABELS, len(parents)) if not any([is_filling_of(row, labels) for row in rows])
    ]
    return sorted([(told_with("in", labels, parents), told_with("out", labels, parents))
                   for labels in least_rows(barring)])


def is_filling_of(row, labels):
    """Whether a row of truths has True for in, False for out."""
    return all([label == "undecided" or truth == (label == "in") for truth, label in zip(row, labels)])


def told_with(label, labels, parents):
    """The parents that have a label, as a tuple."""
    return tuple([parent for parent, mine in zip(parents, labels) if mine == label])


def leanings(tabled, statement):
    """The dict, ascending, from the parents to how their truths can make the statement stand."""
    parents, rows = table_at(tabled, statement)
    return {parent: leaning_at(rows, place) for place, parent in enumerate(parents)}


def leaning_at(rows, place):
    """Which truths at a place can make a row of none: True is "up", False is "down"."""
    ups = [row for row in rows if row[place] and turned_at(row, place) not in rows]
    downs = [row for row in rows if not row[place] and turned_at(row, place) not in rows]
    if ups:
        return "both" if downs else "up"
    return "down" if downs else "none"


def turned_at(row, place):
    """The row with the other truth at a place."""
    return row[:place] + (not row[place],) + row[place + 1:]


def tables_made_plain(tabled):
    """A debate with further statements that has the same labels, and the dict of what these further ones say."""
    names = names_in_tables(tabled)
    objections = [(condition, name) for name in names for condition in conditions(tabled, name)]
    return plain_debate(names, objections, [], lambda ins, outs: ("condition", ins, outs))


def by_groups(tabled):
    """Groups and needs that decide each statement as the tables do, None if there are none."""
    objections = []
    needs = []
    for name in names_in_tables(tabled):
        for ins, outs in conditions(tabled, name):
            if not outs:
                objections.append((ins, name))
            elif not ins and len(outs) == 1:
                needs.append((name, outs[0]))
            else:
                return None
    return Grouped(names_in_tables(tabled), objections, needs)


def not_by_groups(tabled):
    """The first statement with a row and a lesser one that is none, and has what all rows have; None if none has."""
    for name, _, rows in tabled.tables():
        for row in rows:
            for other in rows_of((False, True), len(row)):
                if other not in rows and is_between(other, rows, row):
                    return (name, row, other)
    return None


def is_between(row, rows, upper):
    """Whether a row has True wherever all rows have, and nowhere where the upper one has not."""
    return all([
        truth <= most and (truth or not all([other[place] for other in rows]))
        for place, (truth, most) in enumerate(zip(row, upper))
    ])
