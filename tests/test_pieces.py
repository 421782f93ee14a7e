"""Points 40, 41, 48 and 49: pieces, put in and cut out."""

import unittest

from objections.debates import Debate
from objections.errors import (
    BadIns, BadLot, BadObjections, BadOuts, BadPiece, BadStatements, NoFit, SharedName,
)
from objections.pieces import Piece, cut_out, put_in
from tests.helper import any_objects, drawn_debates, long_debate, long_names, met, not_lists, small_debates, subsets

PIECE = Piece(["b", "a"], ["z", "g"], [("z", "a"), ("b", "a"), ("g", "b"), ("a", "a")], ["b", "a"])


class TestPiece(unittest.TestCase):
    def test_parts(self):
        parts = PIECE.parts()
        self.assertEqual(parts, (
            ["a", "b"], ["z", "g"], [("a", "a"), ("b", "a"), ("g", "b"), ("z", "a")], ["b", "a"],
        ))
        self.assertIs(type(parts), tuple)
        self.assertEqual([type(part) for part in parts], [list] * 4)
        self.assertEqual({type(pair) for pair in parts[2]}, {tuple})

    def test_by_names_and_lists_for_tuples(self):
        piece = Piece(outs=("b", "a"), objections=(["z", "a"], ["a", "a"], ["g", "b"], ["b", "a"]), ins=("z", "g"),
                      statements=("a", "b"))
        self.assertTrue(piece == PIECE)
        self.assertFalse(piece != PIECE)

    def test_nothing_at_all(self):
        self.assertEqual(Piece([], [], [], []).parts(), ([], [], [], []))
        self.assertEqual(Piece([], ["g"], [], []).parts(), ([], ["g"], [], []))

    def test_equal_by_parts_and_to_nothing_else(self):
        pairs = [("z", "a"), ("b", "a"), ("g", "b"), ("a", "a")]
        for other in (
            Piece(["a", "b"], ["g", "z"], pairs, ["b", "a"]), Piece(["a", "b"], ["z", "g"], pairs, ["a", "b"]),
            Piece(["a", "b"], ["z", "g"], pairs[1:], ["b", "a"]), Piece(["a", "b"], ["z", "g"], pairs, ["b"]),
            Piece(["a", "b", "c"], ["z", "g"], pairs, ["b", "a"]),
        ):
            self.assertFalse(PIECE == other)
            self.assertTrue(PIECE != other)
        for thing in any_objects():
            self.assertFalse(PIECE == thing)
        self.assertFalse(Piece([], [], [], []) == Debate([], []))
        self.assertFalse(Debate([], []) == Piece([], [], [], []))

    def test_copied_and_new(self):
        statements, ins, pair, outs = ["b", "a"], ["h", "g"], ["h", "a"], ["b", "a"]
        objections = [pair]
        piece = Piece(statements, ins, objections, outs)
        self.assertEqual((statements, ins, objections, outs), (["b", "a"], ["h", "g"], [["h", "a"]], ["b", "a"]))
        for row in (statements, ins, objections, outs, pair) + piece.parts():
            row.clear()
        self.assertEqual(piece.parts(), (["a", "b"], ["h", "g"], [("h", "a")], ["b", "a"]))

    def test_errors(self):
        good = (["a", "b", "c"], ["g", "h", "i"], [("a", "b"), ("g", "a")], ["b", "a"])
        odd = {
            BadStatements: any_objects() + ["A", "b", "a"], BadIns: any_objects() + ["a", "c", "g", "G", ["k"]],
            BadObjections: any_objects() + [("a", "g"), ("g", "h"), ("a",), ("a", "b", "c"), ("a", "b"), ["g", "a"],
                                            ("x", "a"), ("a", "x"), ("a", None), "ab"],
            BadOuts: any_objects() + ["g", "x", "b", ["c"]],
        }
        rows = {0: ["a", "b"], 1: ["g", "h"], 2: [("a", "b"), ("g", "a")], 3: ["b", "a"]}
        for place, kind in enumerate([BadStatements, BadIns, BadObjections, BadOuts]):
            for thing in not_lists():
                with self.assertRaises(kind) as caught:
                    Piece(*good[:place], *[thing] * (4 - place))
                self.assertEqual(caught.exception.index, 0)
            right = {BadStatements: ["ab", "zz9"], BadIns: ["ab", "zz9"], BadObjections: [["a", "a"]], BadOuts: []}
            for thing in [one for one in odd[kind] if one not in right[kind]]:
                with self.assertRaises(kind) as caught:
                    Piece(*good[:place], rows[place] + [thing, thing], *[None] * (3 - place))
                self.assertEqual(caught.exception.index, 2, (kind, thing))

    def test_gates_have_names_of_their_own(self):
        with self.assertRaises(BadIns) as caught:
            Piece(["a"], ["g", "a"], [], [])
        self.assertEqual(caught.exception.index, 1)
        with self.assertRaises(BadIns) as caught:
            Piece(["a"], ["g", "g"], [], [])
        self.assertEqual(caught.exception.index, 1)


class TestPutIn(unittest.TestCase):
    def test_gates_by_numbers(self):
        around = Piece(["x", "y"], ["b", "a"], [("b", "x"), ("a", "y"), ("x", "y")], ["y", "x"])
        piece = Piece(["a", "b"], ["g", "h"], [("g", "a"), ("h", "b"), ("h", "a"), ("b", "b")], ["b", "a"])
        told = Debate(["a", "b", "x", "y"], [
            ("b", "x"), ("a", "y"), ("x", "y"), ("y", "a"), ("x", "b"), ("x", "a"), ("b", "b"),
        ])
        self.assertEqual(put_in(around, piece), told)
        self.assertEqual(put_in(piece=piece, around=around), told)
        self.assertEqual(put_in(piece, around), told)

    def test_gates_out_that_lead_nowhere(self):
        around = Piece(["x"], ["g"], [("g", "x")], ["x"])
        piece = Piece(["a", "b"], [], [("a", "b")], ["b", "a"])
        self.assertEqual(put_in(around, piece), Debate(["a", "b", "x"], [("a", "b"), ("b", "x")]))

    def test_nothing_at_all(self):
        none = Piece([], [], [], [])
        self.assertEqual(put_in(none, none), Debate([], []))
        self.assertEqual(put_in(none, Piece(["a"], [], [("a", "a")], ["a"])), Debate(["a"], [("a", "a")]))

    def test_a_gate_that_has_the_name_of_a_statement_there(self):
        around = Piece(["x"], ["a"], [("a", "x")], [])
        piece = Piece(["a", "b"], [], [("b", "a")], ["b"])
        self.assertEqual(put_in(around, piece), Debate(["a", "b", "x"], [("b", "x"), ("b", "a")]))

    def test_bad_piece(self):
        odd = [thing for thing in any_objects() if not isinstance(thing, Piece)] + [PIECE.parts()]
        for thing in odd:
            with self.assertRaises(BadPiece) as caught:
                put_in(thing, 5)
            self.assertIs(caught.exception.thing, thing)
            with self.assertRaises(BadPiece) as caught:
                put_in(PIECE, thing)
            self.assertIs(caught.exception.thing, thing)

    def test_no_fit_then_shared_names(self):
        two = Piece(["x", "a"], ["g", "h"], [], [])
        one = Piece(["b", "a"], ["i"], [], ["a"])
        with self.assertRaises(NoFit) as caught:
            put_in(two, one)
        self.assertEqual(caught.exception.many, 1)
        with self.assertRaises(NoFit) as caught:
            put_in(Piece(["b"], [], [], []), one)
        self.assertEqual(caught.exception.many, 0)
        with self.assertRaises(NoFit) as caught:
            put_in(Piece(["b"], ["g", "h", "i"], [], []), Piece(["b"], ["i"], [], ["b"]))
        self.assertEqual(caught.exception.many, 1)
        with self.assertRaises(SharedName) as caught:
            put_in(Piece(["x", "c", "b"], [], [], ["x"]), Piece(["c", "b", "a"], ["g"], [], []))
        self.assertEqual(caught.exception.name, "b")


class TestCutOut(unittest.TestCase):
    def test_put_in_of_both_is_the_debate(self):
        for debate in small_debates() + drawn_debates(10, 7, 22):
            for lot in subsets(debate.statements())[::1 if len(debate) < 5 else 5]:
                around, piece = cut_out(debate, lot[::-1])
                self.assertEqual(put_in(around, piece), debate)

    def test_gates(self):
        for debate in small_debates():
            names = debate.statements()
            for lot in subsets(names):
                others = [name for name in names if name not in lot]
                entries = [one for one in others if any(one in met(debate, member) for member in lot)]
                exits = [one for one in lot if any(one in met(debate, other) for other in others)]
                told = cut_out(debate, lot)
                self.assertIs(type(told), tuple)
                around, piece = told
                pairs = debate.objections()
                self.assertEqual(piece, Piece(lot, entries, [pair for pair in pairs if pair[1] in lot], exits))
                self.assertEqual(around, Piece(others, exits, [pair for pair in pairs if pair[1] in others], entries))

    def test_by_names_and_forty(self):
        around, piece = cut_out(lot=("n03", "n02"), debate=long_debate())
        self.assertEqual(piece.parts(), (["n02", "n03"], ["n01"], [("n01", "n02"), ("n02", "n03")], ["n03"]))
        self.assertEqual(around.parts()[1], ["n03"])
        self.assertEqual(put_in(around, piece), long_debate())
        around, piece = cut_out(long_debate(), long_names()[::2])
        self.assertEqual(len(piece.parts()[1]), 19)
        self.assertEqual(put_in(around, piece), long_debate())

    def test_bad_lot(self):
        debate = Debate(["a", "b"], [])
        for thing in not_lists():
            with self.assertRaises(BadLot) as caught:
                cut_out(debate, thing)
            self.assertEqual(caught.exception.index, 0)
        for thing in any_objects() + ["b", "c"]:
            if thing != "a":
                with self.assertRaises(BadLot) as caught:
                    cut_out(debate, ["b", "a", thing])
                self.assertEqual(caught.exception.index, 2)
