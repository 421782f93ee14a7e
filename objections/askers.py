"""Fewest tables behind whose verdicts just one least twin fits, and askers that know none by so many.

Least twins are told as masks here: the bit of a place is set if the one at this place of the list is meant.
"""

from objections.checks import is_function, is_number, wrong_word
from objections.errors import BadAsker, BadNumber, CanBeTold, NoTable, NothingFits
from objections.families import lots_among
from objections.masks import places_in
from objections.records import fitting, read_records
from objections.toldverdicts import verdict


def tables_of(names):
    """All tables of some names, smaller ones first."""
    return sorted([lot for lot in lots_among(sorted(names)) if lot], key=len)


def splits_by(names, twins):
    """The pairs of each table and its verdicts, these as pairs of the dict and the mask of the twins that have it."""
    splits = []
    for table in tables_of(names):
        parts = []
        for place, debate in enumerate(twins):
            told = verdict(debate, table)
            known = [other for other, _ in parts]
            if told in known:
                turn = known.index(told)
                parts[turn] = (told, parts[turn][1] | (1 << place))
            else:
                parts.append((told, 1 << place))
        splits.append((table, parts))
    return splits


def parts_by(mask, parts):
    """The masks of those of a mask that have each of some verdicts, where there are any."""
    return [mask & having for _, having in parts if mask & having]


def least_left(mask, splits, known):
    """The least number of tables behind which one of a mask is left; known keeps what was worked out."""
    if mask not in known:
        known[mask] = 0
        if mask & (mask - 1):
            rows = [parts_by(mask, parts) for _, parts in splits]
            known[mask] = min([left_behind(row, splits, known) for row in rows if len(row) > 1])
    return known[mask]


def left_behind(row, splits, known):
    """The least number of tables, with the one that parts twins into the masks of a row."""
    return 1 + max([least_left(part, splits, known) for part in row])


def all_that_fit(names, records):
    """The least twins that fit, or NothingFits."""
    twins = fitting(names, records)
    if not twins:
        raise NothingFits()
    return twins


def questions_left(names, records):
    """The least number of further tables behind whose verdicts just one least twin fits."""
    twins = all_that_fit(names, records)
    return least_left((1 << len(twins)) - 1, splits_by(names, twins), {})


def best_tables(names, records):
    """The list of all tables by which to begin with so few, smaller ones first; [] if none is needed."""
    twins = all_that_fit(names, records)
    mask = (1 << len(twins)) - 1
    splits = splits_by(names, twins)
    known = {}
    least = least_left(mask, splits, known)
    found = []
    for table, parts in splits:
        if left_behind(parts_by(mask, parts), splits, known) == least:
            found.append(table)
    return found


def beat_asker(names, records, asker, many):
    """All records behind so many questions of an asker, and two unlike least twins that fit them."""
    read = read_records(names, records)
    if not is_function(asker):
        raise BadAsker(asker)
    if not is_number(many):
        raise BadNumber(many)
    twins = all_that_fit(names, records)
    splits = splits_by(names, twins)
    known = {}
    left = (1 << len(twins)) - 1
    if many >= least_left(left, splits, known):
        raise CanBeTold()
    for _ in range(many):
        table = asked_table(names, asker, read)
        choices = [(told, left & having) for told, having in parts_at(splits, table)]
        told, left = max(choices, key=lambda choice: least_left(choice[1], splits, known))
        read.append((table, dict(told)))
    one, other = [twins[place] for place in places_in(left)[:2]]
    return (read, one, other)


def asked_table(names, asker, records):
    """The table, ascending, that an asker tells behind some records, or NoTable."""
    thing = asker(tuple([(tuple(table), tuple(told.items())) for table, told in records]))
    if wrong_word(thing, names) is not None or len(thing) == 0:
        raise NoTable(thing)
    return sorted(thing)


def parts_at(splits, table):
    """The pairs of verdicts on a table and masks."""
    return [parts for other, parts in splits if other == table][0]
