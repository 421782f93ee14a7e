"""Points 42, 46, 49 and 50: tables of pieces, and pieces for tables by "least"."""

import itertools
import unittest

from objections.debates import Debate
from objections.errors import BadPiece, BadTable, BadWay, NotRising
from objections.joinedpieces import tables_joined
from objections.pieces import Piece, cut_out, put_in
from objections.piecetables import piece_with, table_for, table_of, unlike_rows
from tests.helper import (
    LABELS, Case, any_objects, ascending, drawn_debates, drawn_pieces, label_rows, long_debate, not_pieces, not_words,
    subsets, table_by_words,
)

P = Piece(["o", "w", "x"], [], [("o", "o"), ("w", "w"), ("w", "x"), ("x", "o"), ("x", "w")], ["o"])
Q = Piece(["o", "x", "y"], [], [("o", "o"), ("x", "o"), ("x", "y"), ("y", "x")], ["o"])
WAYS = ["whole", "least", "settled"]


def has(one, other):
    """Whether a row has another one's in's and out's."""
    return all(label in ("undecided", mine) for mine, label in zip(one, other))


def rising_tables(ins, outs):
    """All tables of so many gates that rise."""
    keys = label_rows(ins)
    found = []
    for rows in itertools.product(label_rows(outs), repeat=len(keys)):
        table = dict(zip(keys, rows))
        if all(has(table[one], table[other]) for one in keys for other in keys if has(one, other)):
            found.append({key: [row] for key, row in table.items()})
    return found


class TestTableOf(Case):
    def test_example(self):
        for piece in (P, Q):
            self.assertEqual(table_of(piece, "whole"), {(): [("out",), ("undecided",)]})
            self.assertEqual(table_of(piece, "least"), {(): [("undecided",)]})
            self.assertEqual(table_of(way="settled", piece=piece), {(): [("out",)]})

    def test_plain_ones(self):
        piece = Piece(["a"], ["g"], [("g", "a")], ["a"])
        table = {("in",): [("out",)], ("out",): [("in",)], ("undecided",): [("undecided",)]}
        self.assertEqual(table_of(piece, "whole"), table)
        self.assertEqual(table_of(piece, "least"), table)
        self.assertEqual(table_of(piece, "settled"), {("in",): [("out",)], ("out",): [("in",)]})

    def test_pieces_of_nothing(self):
        for way in WAYS:
            self.assertEqual(table_of(Piece([], [], [], []), way), {(): [()]})
            labels = LABELS[:2] if way == "settled" else LABELS
            idle = Piece(["a"], ["g", "h"], [], [])
            self.assertEqual(table_of(idle, way), {row: [()] for row in label_rows(2, labels)})
            self.assertEqual(table_of(Piece([], ["g"], [], []), way), {(label,): [()] for label in labels})
        self.assertEqual(table_of(Piece(["a"], [], [("a", "a")], ["a"]), "settled"), {(): []})
        self.assertEqual(table_of(Piece(["a"], [], [("a", "a")], []), "settled"), {(): []})
        self.assertEqual(table_of(Piece(["a"], [], [("a", "a")], []), "whole"), {(): [()]})

    def test_by_words(self):
        pieces = drawn_pieces(80, 4, 2, 3, 50) + drawn_pieces(6, 6, 3, 3, 51)
        pieces += [piece for debate in drawn_debates(12, 5, 52) for lot in subsets(debate.statements())[::6]
                   for piece in cut_out(debate, lot)]
        for piece in pieces:
            for way in WAYS:
                table = table_of(piece, way)
                self.assertEqual(table, table_by_words(piece, way))
                self.assertTrue(ascending(table))
                for rows in table.values():
                    self.assertIs(type(rows), list)
                    self.assertEqual(rows, sorted(rows))
                    self.assertEqual({type(row) for row in rows} | {tuple}, {tuple})

    def test_just_one_least_row_which_all_have(self):
        for piece in drawn_pieces(60, 5, 2, 2, 53):
            whole, least = table_of(piece, "whole"), table_of(piece, "least")
            for row in least:
                self.assertEqual(len(least[row]), 1)
                self.assertTrue(all(has(other, least[row][0]) for other in whole[row]))

    def test_at_the_limit(self):
        names = list("abcdef")
        pairs = [(one, other) for one, other in zip("abcdef", "badcfe")] + list(zip("ghi", "ace"))
        piece = Piece(names, ["g", "h", "i"], pairs, ["a", "c", "e"])
        table = table_of(piece, "whole")
        self.assertEqual(len(table), 27)
        self.assertEqual(len(table[("out", "out", "out")]), 27)
        self.assertEqual(table[("in", "in", "in")], [("out", "out", "out")])
        self.assertEqual(len(table_of(piece, "settled")[("out", "out", "out")]), 8)

    def test_a_long_piece(self):
        debate = long_debate()
        around, piece = cut_out(debate, debate.statements()[10:30])
        for way in ("whole", "least"):
            self.assertEqual(table_of(around, way), {(label,): [("out",)] for label in LABELS})
            self.assertEqual(table_of(piece, way), {(label,): [(label,)] for label in LABELS})

    def test_unlike_rows(self):
        """For all rows of labels some of these has the same in the tables of both pieces; a few may be enough."""
        pieces = drawn_pieces(250, 4, 3, 3, 58)
        fewer = 0
        for gates in range(4):
            alike = [piece for piece in pieces if len(piece.parts()[1]) == gates]
            for (one, other), way in itertools.product(zip(alike, alike[1:]), WAYS):
                labels = LABELS[:2] if way == "settled" else LABELS
                rows = unlike_rows(one, other, labels)
                tables = [table_of(piece, way) for piece in (one, other)]
                self.assertLessEqual(set(rows), set(tables[0]))
                self.assertEqual(len(rows), len(set(rows)))
                fewer += len(rows) < len(tables[0])
                some = [table_for(piece, way, rows) for piece in (one, other)]
                self.assertEqual(some, [{row: table[row] for row in rows} for table in tables])
                pairs = [(tables[0][row], tables[1][row]) for row in tables[0]]
                for row in rows:
                    self.assertIn((some[0][row], some[1][row]), pairs)
                for pair in pairs:
                    self.assertIn(pair, [(some[0][row], some[1][row]) for row in rows])
        self.assertGreater(fewer, 100)

    def test_few_rows_for_many_gates(self):
        """Nine gates to one statement: in some, in none but undecided in some, out in all."""
        gates = [f"g{at}" for at in range(9)]
        one = Piece(["a"], gates, [(gate, "a") for gate in gates], ["a"])
        self.assertEqual(len(unlike_rows(one, one, LABELS)), 3)
        self.assertEqual(len(unlike_rows(one, one, LABELS[:2])), 2)

    def test_new_each_time(self):
        told = table_of(P, "whole")
        told[()].clear()
        told.clear()
        self.assertEqual(table_of(P, "whole"), {(): [("out",), ("undecided",)]})

    def test_errors(self):
        for thing in not_pieces():
            self.refuses(BadPiece, {"thing": thing}, table_of, thing, None)
        for thing in not_words(WAYS) + ["greatest", "calm", "held"]:
            self.refuses(BadWay, {"thing": thing}, table_of, P, thing)


class TestPieceWith(Case):
    def test_all_that_rise(self):
        tables = rising_tables(0, 2) + rising_tables(1, 1) + rising_tables(1, 2) + rising_tables(2, 1)[::23]
        for table in tables:
            piece = piece_with(table)
            self.assertIsInstance(piece, Piece)
            self.assertEqual(table_of(piece, "least"), table)
            self.assertEqual(table_of(under_other_names(piece), "least"), table)

    def test_those_of_pieces(self):
        for piece in drawn_pieces(40, 6, 3, 3, 54):
            table = table_of(piece, "least")
            self.assertEqual(table_of(piece_with(table), "least"), table)
            rising = all(has(table[one][0], table[other][0]) for one in table for other in table if has(one, other))
            self.assertTrue(rising)

    def test_no_gates(self):
        self.assertEqual(table_of(piece_with({(): [()]}), "least"), {(): [()]})
        self.assertEqual(table_of(piece_with({(): [("in", "out", "undecided")]}), "least"),
                         {(): [("in", "out", "undecided")]})
        table = {(label,): [()] for label in LABELS}
        self.assertEqual(table_of(piece_with(table=table), "least"), table)

    def test_the_same_for_equal_tables(self):
        table = table_of(drawn_pieces(1, 6, 3, 3, 57)[0], "least")
        other = {key: (list(table[key][0]),) for key in reversed(list(table))}
        self.assertEqual(piece_with(other), piece_with(table))
        self.assertEqual(piece_with(table), piece_with(table))

    def test_what_is_passed_stays(self):
        rows = [["in"]]
        table = {(): rows}
        piece_with(table)
        self.assertEqual((table, rows), ({(): [["in"]]}, [["in"]]))

    def test_six_gates(self):
        one, other = [table_of(piece, "least") for piece in drawn_pieces(9, 6, 3, 3, 55)[5:7]]
        table = tables_joined(one, other, "least")
        self.assertEqual(table_of(piece_with(table), "least"), table)

    def test_bad_tables(self):
        good = {("in",): [("in",)], ("out",): [("out",)], ("undecided",): [("undecided",)]}
        self.assertEqual(table_of(piece_with(good), "least"), good)
        odd = [thing for thing in any_objects() if thing is not good]
        for change in (
            {("in",): []}, {("in",): [("in",), ("out",)]}, {("in",): [("in", "in")]}, {("in",): [()]},
            {("in",): [("on",)]}, {("in",): ["in"]}, {("in",): [[["in"]]]}, {("in",): None}, {("in",): [None]},
            {("in",): ("in",)}, {("in",): {("in",): True}}, {("on",): [("in",)]}, {("in", "in"): [("in",)]},
            {"in": [("in",)]}, {5: [("in",)]}, {None: [("in",)]}, {(): [("in",)]}, {("in",): [(True,)]},
            {("in",): [[1]]}, {("in",): "in"}, {("in",): [("IN",)]}, {("in",): P},
        ):
            odd.append(good | change)
        odd += [{key: good[key] for key in list(good)[:2]}, {}, {(1,): [("in",)]} | good, {("in",): [("in",)]}]
        odd += [{("in",): [("in",)], ("out",): [("out",)], ("off",): [("in",)]}, {5: [()]}, {(): []}, {(): [(), ()]}]
        odd += [{("in",): [("in",)], ("out",): [("out",)], (): [("in",)]}, {("in",): [()]}, {(): [("x",)]}]
        for thing in odd:
            self.refuses(BadTable, {"thing": thing}, piece_with, thing)

    def test_not_rising(self):
        table = {("in",): [("out",)], ("out",): [("in",)], ("undecided",): [("in",)]}
        self.refuses(NotRising, {"one": ("in",), "other": ("undecided",)}, piece_with, table)
        table = {("undecided",): [["out"]], ("out",): [["in"]], ("in",): [["out"]]}
        self.refuses(NotRising, {"one": ("out",), "other": ("undecided",)}, piece_with, table)
        keys = label_rows(2)
        for rows in list(itertools.product(label_rows(1), repeat=9))[::97]:
            table = dict(zip(keys, [[row] for row in rows]))
            wrong = [
                (one, other) for one in keys for other in keys
                if has(one, other) and not has(table[one][0], table[other][0])
            ]
            if wrong:
                one, other = min(wrong)
                self.refuses(NotRising, {"one": one, "other": other}, piece_with, table)
            else:
                self.assertEqual(table_of(piece_with(table), "least"), table)


def under_other_names(piece):
    """The same piece under other names."""
    statements, ins, objections, outs = piece.parts()
    names = {name: f"r{at}" for at, name in enumerate(statements + ins)}
    return Piece([names[name] for name in statements], [names[name] for name in ins],
                 [(names[one], names[other]) for one, other in objections], [names[name] for name in outs])


class TestAlikePieces(unittest.TestCase):
    def test_an_alike_piece_can_stand_where_one_was_cut_out(self):
        for debate in drawn_debates(25, 6, 56):
            for lot in subsets(debate.statements())[::9]:
                around, piece = cut_out(debate, lot)
                other = under_other_names(piece_with(table_of(piece, "least")))
                self.assertEqual(least_around(put_in(around, other), around), least_around(debate, around))


def least_around(debate, around):
    """Of the least lot, grown step by step, those that are around's."""
    lot = []
    for _ in debate.statements():
        hit = {other for one, other in debate.objections() if one in lot}
        lot = [
            name for name in debate.statements()
            if all(one in hit for one, other in debate.objections() if other == name)
        ]
    return [name for name in lot if name in around.parts()[0]]


class TestDebatesAsPieces(unittest.TestCase):
    def test_whole_tables_without_gates_tell_all_labels(self):
        for debate in drawn_debates(20, 4, 58) + [Debate([], [])]:
            piece = Piece(debate.statements(), [], debate.objections(), debate.statements())
            self.assertEqual(table_of(piece, "whole"), table_by_words(piece, "whole"))
