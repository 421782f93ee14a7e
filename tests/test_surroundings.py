"""Points 43, 44, 45, 49 and 50: surroundings of pieces, and those that tell two of them apart."""

import itertools

from objections.debates import Debate
from objections.errors import BadPiece, BadWay, NoFit, SharedName, UnlikeGates
from objections.lots import lots_of
from objections.pieces import Piece, cut_out, put_in
from objections.piecetables import piece_with, table_of
from objections.surroundings import around_parting, is_around_parting, lots_around
from tests.helper import (
    LABELS, Case, any_objects, drawn_debates, drawn_pieces, lots_by_words, not_pieces, not_words, subsets,
    table_by_words,
)

P = Piece(["o", "w", "x"], [], [("o", "o"), ("w", "w"), ("w", "x"), ("x", "o"), ("x", "w")], ["o"])
Q = Piece(["o", "x", "y"], [], [("o", "o"), ("x", "o"), ("x", "y"), ("y", "x")], ["o"])
AROUND = Piece(["a"], ["g"], [("g", "a")], [])
WAYS = ["whole", "least", "settled"]


def around_by_words(around, piece, way):
    names = around.parts()[0]
    lots = lots_by_words(put_in(around, piece), way)
    return sorted({tuple(name for name in lot if name in names) for lot in lots})


def small_pieces():
    """All pieces of one statement with a gate in and one out, and some of two."""
    found = [Piece(["s"], ["g"], pairs, ["s"]) for pairs in subsets([("g", "s"), ("s", "s")])]
    pairs = list(itertools.product(["g", "s", "t"], ["s", "t"]))
    return found + [Piece(["s", "t"], ["g"], row, ["t"]) for row in subsets(pairs)[::2]]


def small_arounds():
    """Pieces into which those can be put."""
    pairs = list(itertools.product(["h", "x", "y"], ["x", "y"]))
    found = [Piece(["x", "y"], ["h"], row, ["x"]) for row in subsets(pairs)[::3]]
    return found + [Piece(["x", "y", "z"], ["h"], [("h", "x"), ("x", "y")] + row, ["z"])
                    for row in ([], [("z", "z")], [("x", "z")])]


class TestLotsAround(Case):
    def test_example(self):
        for piece in (P, Q):
            self.assertEqual(lots_around(AROUND, piece, "whole"), [[], ["a"]])
            self.assertEqual(lots_around(way="settled", piece=piece, around=AROUND), [["a"]])
            self.assertEqual(lots_around(AROUND, piece, "least"), [[]])
        # Point 45: greatest lots are no way here, and equal tables are not enough for them.
        greatest = [
            sorted({tuple(name for name in lot if name == "a") for lot in lots_of(put_in(AROUND, piece), "greatest")})
            for piece in (P, Q)
        ]
        self.assertEqual(greatest, [[("a",)], [(), ("a",)]])
        self.assertEqual(table_of(P, "whole"), table_of(Q, "whole"))

    def test_by_words(self):
        arounds = drawn_pieces(40, 4, 2, 3, 60, "a")
        pieces = drawn_pieces(40, 4, 2, 3, 61, "b")
        many = 0
        for around, piece in itertools.product(arounds, pieces):
            if len(around.parts()[1]) <= len(piece.parts()[3]) and len(piece.parts()[1]) <= len(around.parts()[3]):
                many += 1
                if many % 4 == 0:
                    for way in WAYS:
                        told = lots_around(around, piece, way)
                        self.assertEqual(told, [list(lot) for lot in around_by_words(around, piece, way)])
        self.assertGreater(many, 300)

    def test_nothing_at_all(self):
        none = Piece([], [], [], [])
        for way in WAYS:
            self.assertEqual(lots_around(none, none, way), [[]])
        odd = Piece(["a"], [], [("a", "a")], [])
        self.assertEqual(lots_around(none, odd, "settled"), [])
        self.assertEqual(lots_around(none, odd, "whole"), [[]])

    def test_fifteen_statements(self):
        names = [f"a{at}" for at in range(9)]
        around = Piece(names, ["g", "h", "i"], [("g", "a0"), ("h", "a1"), ("i", "a2")], names[3:6])
        piece = Piece(list("uvwxyz"), ["k", "l", "m"], [("k", "u"), ("l", "v"), ("m", "w")] + [
            ("u", "x"), ("x", "u"), ("v", "y"), ("y", "v"), ("w", "z"), ("z", "w")], ["x", "y", "z"])
        self.assertEqual(lots_around(around, piece, "whole"), [names[3:]])
        idle = Piece(names, ["g", "h", "i"], [("g", "a0"), ("h", "a1"), ("i", "a2")] + [
            ("a6", "a3"), ("a7", "a4"), ("a8", "a5"), ("a6", "a6"), ("a7", "a7"), ("a8", "a8")], names[3:6])
        told = lots_around(idle, piece, "whole")
        self.assertEqual(told, [[]])
        free = Piece(list("uvwxyz"), [], [("u", "x"), ("x", "u"), ("v", "y"), ("y", "v"), ("w", "z"), ("z", "w")],
                     ["x", "y", "z"])
        self.assertEqual(lots_around(around, free, "whole"), sorted(
            sorted(list(lot) + names[3:]) for lot in subsets(names[:3])))
        self.assertEqual(len(lots_around(around, free, "settled")), 8)

    def test_pieces_for_tables_as_many_as_come(self):
        for piece in drawn_pieces(25, 6, 2, 3, 62, "b"):
            other = piece_with(table_of(piece, "least"))
            for around in drawn_pieces(12, 4, 3, 2, 63, "a"):
                fits = len(around.parts()[1]) <= len(piece.parts()[3]) and (
                    len(piece.parts()[1]) <= len(around.parts()[3]))
                if fits:
                    self.assertEqual(lots_around(around, other, "least"), lots_around(around, piece, "least"))

    def test_new_each_time(self):
        told = lots_around(AROUND, P, "whole")
        told[0].append("x")
        told.clear()
        self.assertEqual(lots_around(AROUND, P, "whole"), [[], ["a"]])

    def test_errors(self):
        for thing in not_pieces():
            self.refuses(BadPiece, {"thing": thing}, lots_around, thing, None, None)
            self.refuses(BadPiece, {"thing": thing}, lots_around, AROUND, thing, None)
        two = Piece(["a", "c"], ["g", "h"], [], [])
        self.refuses(NoFit, {"many": 1}, lots_around, two, P, None)
        self.refuses(NoFit, {"many": 0}, lots_around, AROUND, Piece(["b"], [], [], []), None)
        self.refuses(NoFit, {"many": 0}, lots_around, Piece(["b"], [], [], []), AROUND, None)
        self.refuses(SharedName, {"name": "o"}, lots_around, P, Q, None)
        for thing in not_words(WAYS) + ["greatest", "calm", "held"]:
            self.refuses(BadWay, {"thing": thing}, lots_around, AROUND, P, thing)


class TestAlike(Case):
    def test_alike_just_if_their_tables_are(self):
        pieces = small_pieces()
        arounds = small_arounds()
        for way in WAYS:
            tables = [table_by_words(piece, way) for piece in pieces]
            rows = [[lots_around(around, piece, way) for around in arounds] for piece in pieces]
            for one, other in itertools.combinations(range(len(pieces)), 2):
                if tables[one] == tables[other]:
                    self.assertEqual(rows[one], rows[other])
                told = around_parting(pieces[one], pieces[other], way)
                self.assertEqual(told is None, tables[one] == tables[other])

    def test_an_alike_piece_can_stand_where_one_was_cut_out(self):
        groups = {}
        for debate in drawn_debates(60, 5, 64):
            for lot in subsets(debate.statements()):
                if len(lot) in (1, 2):
                    around, piece = cut_out(debate, lot)
                    for way in WAYS:
                        key = (way, len(piece.parts()[3]), repr(table_of(piece, way)))
                        groups.setdefault(key, []).append((around, piece))
        many = 0
        for (way, _, _), rows in groups.items():
            for (around, piece), (_, other) in zip(rows, rows[1:]):
                statements, ins, objections, outs = other.parts()
                names = {name: f"r{at}" for at, name in enumerate(statements)}
                moved = Piece([names[name] for name in statements], ins, [
                    (names.get(one, one), names[two]) for one, two in objections], [names[name] for name in outs])
                self.assertEqual(lots_around(around, moved, way), lots_around(around, piece, way))
                many += statements != piece.parts()[0]
        self.assertGreater(many, 50)


class TestParting(Case):
    def test_just_one(self):
        for seed, gates in ((65, 2), (66, 1), (67, 0)):
            pieces = [piece for piece in drawn_pieces(500, 5, gates, gates, seed)
                      if (len(piece.parts()[1]), len(piece.parts()[3])) == (gates, gates)][:22]
            self.assertGreater(len(pieces), 20)
            for one, other in itertools.product(pieces, repeat=2):
                for way in WAYS:
                    self.check(one, other, way)

    def check(self, one, other, way):
        told = around_parting(one, other, way)
        if told is None:
            self.assertEqual(table_of(one, way), table_of(other, way))
            return
        statements, ins, _, outs = told.parts()
        self.assertLessEqual(len(statements), 8)
        self.assertLessEqual(len(outs), 2)
        self.assertNotEqual(lots_around(told, one, way), lots_around(told, other, way))
        self.assertIs(is_around_parting(one, other, way, told), True)

    def test_unlike_tables_are_told_apart_by_words(self):
        one, other = Piece(["s"], ["g"], [], ["s"]), Piece(["s"], ["g"], [("g", "s")], ["s"])
        for way in WAYS:
            told = around_parting(one, other, way)
            self.assertNotEqual(around_by_words(told, one, way), around_by_words(told, other, way))
        one, other = Piece(["s"], [], [("s", "s")], []), Piece(["s"], [], [], [])
        self.assertIsNone(around_parting(one, other, "whole"))
        told = around_parting(one, other, way="settled")
        self.assertEqual(lots_around(told, one, "settled"), [])
        self.assertNotEqual(lots_around(told, other, "settled"), [])

    def test_equal_pieces(self):
        for piece in [P, Q, AROUND] + drawn_pieces(20, 5, 2, 2, 68):
            for way in WAYS:
                self.assertIsNone(around_parting(piece, piece, way))
                self.assertIs(is_around_parting(piece, piece, way, around_parting(piece, piece, way)), False)

    def test_names_that_further_statements_might_take(self):
        names = [f"x{at}" for at in range(6)]
        one = Piece(names, ["x6", "x7"], [("x6", "x0")], ["x0", "x1"])
        other = Piece(names, ["x6", "x7"], [("x7", "x1")], ["x0", "x1"])
        for way in WAYS:
            self.check(one, other, way)
            self.check(one, Piece(["y"] + names[1:], ["g", "h"], [("h", "y")], ["y", "x3"]), way)

    def test_the_same_for_equal_pieces(self):
        names, pairs = ["s", "t", "u"], [("g", "s"), ("s", "t"), ("t", "u"), ("u", "t"), ("h", "u")]
        other = Piece(["s", "t"], ["g", "h"], [("h", "s"), ("s", "t")], ["t", "s"])
        one = Piece(names, ["g", "h"], pairs, ["t", "u"])
        turned = Piece(tuple(names[::-1]), ("g", "h"), [list(pair) for pair in pairs[::-1]], ("t", "u"))
        for way in WAYS:
            told = around_parting(one, other, way)
            self.assertIsNotNone(told)
            self.assertEqual(around_parting(turned, other, way), told)
            self.assertEqual(around_parting(one, other, way), told)

    def test_what_parts(self):
        one, other = Piece(["s"], ["g"], [("g", "s")], ["s"]), Piece(["s", "t"], ["g"], [("s", "s")], ["s"])
        pairs = list(itertools.product(["h", "x", "y"], ["x", "y"]))
        for row in subsets(pairs)[::3]:
            for way in WAYS:
                thing = Piece(["x", "y"], ["h"], row, ["x", "y"])
                right = around_by_words(thing, one, way) != around_by_words(thing, other, way)
                self.assertIs(is_around_parting(one, other, way, thing), right)

    def test_any_objects(self):
        one, other = Piece(["s"], ["g"], [], ["s"]), Piece(["t"], ["g"], [("g", "t")], ["t"])
        parting = Piece(["a", "b"], ["h"], [("h", "a")], ["b"])
        self.assertTrue(is_around_parting(one, other, "whole", parting))
        self.assertTrue(is_around_parting(thing=parting, way="least", other=other, one=one))
        odd = [thing for thing in any_objects() if not isinstance(thing, Piece)]
        for thing in odd + [parting.parts(), one, other]:
            self.assertIs(is_around_parting(one, other, "whole", thing), False)
        for odd in (
            Piece(["a", "b"], ["h", "i"], [("h", "a")], ["b"]), Piece(["a", "b"], ["h"], [("h", "a")], []),
            Piece(["s", "b"], ["h"], [("h", "s")], ["b"]), Piece(["t", "b"], ["h"], [("h", "t")], ["b"]),
            Piece(["s", "t"], ["h"], [("h", "t")], ["s"]),
        ):
            self.assertIs(is_around_parting(one, other, "whole", odd), False)
        further = Piece(["a", "b", "c"], ["h"], [("h", "a")], ["b", "c", "a"])
        self.assertIs(is_around_parting(one, other, "settled", further), True)

    def test_nine_statements_and_three_gates(self):
        one = Piece(list("stuvwx"), ["g", "h"], [("g", "s"), ("h", "t")], ["s", "t"])
        other = Piece(list("stuvwx"), ["g", "h"], [("g", "s"), ("g", "t")], ["s", "t"])
        names = [f"a{at}" for at in range(9)]
        thing = Piece(names, ["k", "l"], [("k", "a0"), ("l", "a1"), ("a3", "a4"), ("a5", "a5")], ["a4", "a3", "a5"])
        for way in WAYS[:2]:
            self.assertIs(is_around_parting(one, other, way, thing), True)
        thing = Piece(names, ["k", "l", "m"], [], ["a4", "a3", "a5"])
        self.assertIs(is_around_parting(one, other, "whole", thing), False)

    def test_errors(self):
        one, other = Piece(["s"], ["g"], [], ["s"]), Piece(["t"], ["g"], [("g", "t")], ["t"])
        calls = [lambda *given: around_parting(*given), lambda *given: is_around_parting(*given, None)]
        for call in calls:
            for thing in not_pieces():
                self.refuses(BadPiece, {"thing": thing}, call, thing, None, None)
                self.refuses(BadPiece, {"thing": thing}, call, one, thing, None)
            for odd in (P, AROUND, Piece(["s"], ["g", "h"], [], ["s"]), Piece(["s"], [], [], ["s"])):
                self.refuses(UnlikeGates, {}, call, one, odd, None)
                self.refuses(UnlikeGates, {}, call, odd, one, "whole")
            for thing in not_words(WAYS) + ["greatest", "calm", "held"]:
                self.refuses(BadWay, {"thing": thing}, call, one, other, thing)


class TestDebatesAround(Case):
    def test_told_lots_are_those_of_the_whole(self):
        for debate in drawn_debates(15, 6, 71):
            for lot in subsets(debate.statements())[::7]:
                around, piece = cut_out(debate, lot)
                self.assertEqual(put_in(around, piece), Debate(debate.statements(), debate.objections()))
                self.assertEqual([tuple(one) for one in lots_around(around, piece, "whole")],
                                 around_by_words(around, piece, "whole"))

    def test_labels_are_three(self):
        self.assertEqual(sorted(table_of(AROUND, "whole")), [(label,) for label in LABELS])
