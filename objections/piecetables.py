"""Tables of pieces: from the labels of gates in to those of gates out; and pieces built for tables."""

from objections.checks import is_list, is_word
from objections.debates import Debate, mask_at, place_of
from objections.errors import BadTable, NotRising
from objections.lotmasks import check_way
from objections.marks import LABELS, has_row, least_rows, marks_of, row_at, rows_of
from objections.partmarks import least_marks, marks_by_plan, plan_of
from objections.pieces import Piece, check_piece

TABLE_WAYS = ("whole", "least", "settled")


def labels_for(way):
    """The labels that rows of a table of the way may have."""
    return ("in", "out") if way == "settled" else LABELS


def table_of(piece, way):
    """The dict from the rows of labels for gates in to the lists of rows that gates out have then."""
    check_piece(piece)
    check_way(way, TABLE_WAYS)
    return table_for(piece, way, rows_of(labels_for(way), len(piece.parts()[1])))


def table_for(piece, way, rows):
    """The table of some rows for gates in alone."""
    statements, ins, objections, outs = piece.parts()
    # Gates in are put in as statements that have their labels already.
    debate = Debate(statements + ins, objections)
    entries = [place_of(debate, gate) for gate in ins]
    exits = [place_of(debate, gate) for gate in outs]
    within = mask_at(debate, statements)
    plan = plan_of(debate, within)
    known = {}
    table = {}
    for row in rows:
        start = marks_of(row, entries)
        if way == "least":
            found = [least_marks(debate, within, start)]
        else:
            found = marks_by_plan(debate, plan, way, start, known)
        table[row] = rows_at(found, exits)
    return table


def unlike_rows(one, other, labels):
    """Rows of the labels for gates in, of both, one for all that the statements of both meet alike.

    A statement meets some in, or none but some undecided, or out alone: it is the same which gates these are.
    """
    rows = {(0, 0): ()}
    for targets in targets_of(one, other):
        grown = {}
        for (beaten, barred), row in rows.items():
            more = {"in": (beaten | targets, barred & ~targets), "out": (beaten, barred)}
            more["undecided"] = (beaten, barred | targets & ~beaten)
            for label in labels:
                grown[more[label]] = row + (label,)
        rows = grown
    return list(rows.values())


def targets_of(one, other):
    """For each number the mask of the statements of both to which the gates in of this number object."""
    statements, ins, objections, _ = one.parts()
    others, other_ins, other_objections, _ = other.parts()
    return [
        sum([1 << place for place, name in enumerate(statements) if (gate, name) in objections])
        + sum([1 << len(statements) + place for place, name in enumerate(others) if (twin, name) in other_objections])
        for gate, twin in zip(ins, other_ins)
    ]


def rows_at(found, places):
    """The ascending list of the unlike rows that some places have by labellings."""
    mask = sum([1 << place for place in places])
    unlike = sorted({(ins & mask, outs & mask) for ins, outs in found})
    return sorted([row_at(marks, places) for marks in unlike])


def read_table(thing, way):
    """Any object as a table of the way, with rows as tuples; None if it is none, rising or not."""
    labels = labels_for(way)
    if not isinstance(thing, dict) or not has_all_rows(thing, labels):
        return None
    table = {}
    lengths = []
    for key in sorted(thing):
        rows = read_rows(thing[key], labels)
        if rows is None or way == "least" and len(rows) != 1:
            return None
        lengths.extend([len(row) for row in rows])
        table[key] = rows
    return table if len(set(lengths)) < 2 else None


def has_all_rows(thing, labels):
    """Whether the keys of a dict are just all rows of so many of the labels."""
    many = 0
    rows = 1
    while rows < len(thing):
        many = many + 1
        rows = rows * len(labels)
    return rows == len(thing) and all([row in thing for row in rows_of(labels, many)])


def read_rows(thing, labels):
    """An ascending list of unlike rows of labels as a list of tuples, None for any other object."""
    if not is_list(thing) or not all([is_list(row) for row in thing]):
        return None
    if not all([is_word(label, labels) for row in thing for label in row]):
        return None
    rows = [tuple(row) for row in thing]
    return rows if rows == sorted(set(rows)) else None


def rises(table):
    """Whether each key's row has that of each key that it has, told by keys that differ in one place alone."""
    for key in table:
        for place in range(len(key)):
            other = key[:place] + ("undecided",) + key[place + 1:]
            if not has_row(table[key][0], table[other][0]):
                return False
    return True


def not_rising(table):
    """The first two keys of a table of one row each of which one has the other, their rows not; None if it rises."""
    if rises(table):
        return None
    pairs = [(one, other) for one in table for other in table if has_row(one, other)]
    return [(one, other) for one, other in pairs if not has_row(table[one][0], table[other][0])][0]


def piece_with(table):
    """A piece that has a table by "least"."""
    rows = read_table(table, "least")
    if rows is None:
        raise BadTable(table)
    fault = not_rising(rows)
    if fault is not None:
        one, other = fault
        raise NotRising(one, other)
    return piece_by_keys(rows)


def piece_by_keys(table):
    """The piece in which each gate out is told by statements for the least keys that make it in, or out."""
    many, width = sizes_of(table)
    gates = [f"g{number}" for number in range(many)]
    nots = [f"n{number}" for number in range(many)]
    outs = [f"o{number}" for number in range(width)]
    keepers = [f"u{number}" for number in range(width)]
    objections = list(zip(gates, nots)) + list(zip(keepers, outs)) + list(zip(keepers, keepers))
    words = {}
    for number in range(width):
        # A keeper objects to itself, so what no key decides stays undecided; keys for in put the keeper out.
        for label, target in (("in", keepers[number]), ("out", outs[number])):
            for key in least_keys(table, number, label):
                words[key] = words.get(key, f"k{len(words)}")
                objections.append((words[key], target))
    for key, word in words.items():
        objections.extend([(nots[place], word) for place, label in enumerate(key) if label == "in"])
        objections.extend([(gates[place], word) for place, label in enumerate(key) if label == "out"])
    return Piece(nots + outs + keepers + list(words.values()), gates, objections, outs)


def sizes_of(table):
    """How many labels the keys have, and the rows of a table of one row each."""
    key = list(table)[0]
    return (len(key), len(table[key][0]))


def least_keys(table, number, label):
    """The keys by which a gate out has a label, and that have no other such key."""
    return least_rows([key for key in table if table[key][0][number] == label])
