"""Points 47 and 49: pieces that are joined and fed back, and the like of their tables."""

import itertools

from objections.errors import BadPiece, BadTable, BadWay, NoGate, SharedName
from objections.joinedpieces import fed_back, pieces_joined, table_fed_back, tables_joined
from objections.pieces import Piece
from objections.piecetables import piece_with, table_of
from tests.helper import (
    LABELS, Case, any_objects, ascending, drawn_pieces, label_rows, not_pieces, not_words, table_by_words,
)

WAYS = ["whole", "least", "settled"]
ONE = Piece(["b", "a"], ["z", "g"], [("z", "a"), ("b", "a"), ("g", "b")], ["b", "a"])
OTHER = Piece(["c"], ["y"], [("y", "c"), ("c", "c")], ["c"])


def not_indexes(many):
    """Any objects that are no integers from 0 on below so many."""
    return [thing for thing in any_objects() if type(thing) is not int or not 0 <= thing < many] + [many, -1, "0"]


def bad_tables(way):
    """Any objects that are no tables of a way, though some nearly are."""
    labels = LABELS[:2] if way == "settled" else LABELS
    good = {(label,): [(label,)] for label in labels}
    odd = any_objects() + [
        {key: good[key] for key in list(good)[1:]}, {}, {(): [("in",), ("in",)]}, {(): [("on",)]}, {(): [(1,)]},
        {(): None}, {(): ["in"]}, {(): ("in",)}, {(): [("in",), ("in", "in")]}, {(): [("out",), ("in",)]},
        {"": [()]}, {5: [()]}, good | {("in",): [("in", "in")]}, good | {("in",): [("out",), ["out"]]},
        good | {("in",): [("in",), ("in", "in")]}, good | {("in",): [["out"], ["in"]]}, good | {("on",): [("in",)]},
        good | {("in",): {("in",): 1}}, good | {("in",): [[["in"]]]}, good | {("in", "in"): [("in",)]},
    ]
    if way == "least":
        odd += [good | {("in",): []}, good | {("in",): [("in",), ("out",)]}, {(): []}]
        odd += [good | {("undecided",): [("out",)]}, good | {("in",): [("undecided",)], ("undecided",): [("in",)]}]
    if way == "settled":
        odd += [{(label,): [("in",)] for label in LABELS}, good | {("in",): [("undecided",)]}]
    else:
        odd += [{(label,): [(label,)] for label in LABELS[:2]}]
    return odd


class TestJoined(Case):
    def test_parts(self):
        told = pieces_joined(ONE, OTHER)
        self.assertEqual(told.parts(), (["a", "b", "c"], ["z", "g", "y"], sorted([
            ("z", "a"), ("b", "a"), ("g", "b"), ("y", "c"), ("c", "c")]), ["b", "a", "c"]))
        self.assertEqual(pieces_joined(other=ONE, one=OTHER).parts()[1::2], (["y", "z", "g"], ["c", "b", "a"]))
        none = Piece([], [], [], [])
        self.assertEqual(pieces_joined(none, none), none)
        self.assertEqual(pieces_joined(none, ONE), ONE)
        self.assertEqual(pieces_joined(ONE, none), ONE)

    def test_errors(self):
        for thing in not_pieces():
            self.refuses(BadPiece, {"thing": thing}, pieces_joined, thing, None)
            self.refuses(BadPiece, {"thing": thing}, pieces_joined, ONE, thing)
        for odd, name in (
            (ONE, "a"), (Piece(["g"], ["z", "b"], [], []), "b"), (Piece(["z", "g"], [], [], []), "g"),
            (Piece(["c"], ["z"], [], []), "z"), (Piece(["b"], ["h"], [], []), "b"),
        ):
            self.refuses(SharedName, {"name": name}, pieces_joined, ONE, odd)
            self.refuses(SharedName, {"name": name}, pieces_joined, odd, ONE)

    def test_tables(self):
        ones, others = drawn_pieces(30, 5, 2, 2, 80, "a"), drawn_pieces(30, 5, 2, 2, 81, "b")
        for one, other in zip(ones, others):
            for way in WAYS:
                told = tables_joined(table_of(one, way), table_of(other, way), way)
                self.assertEqual(told, table_of(pieces_joined(one, other), way))
                self.assertTrue(ascending(told))
                right = {
                    key + more: sorted(row + further for row in rows for further in other_rows)
                    for key, rows in table_by_words(one, way).items()
                    for more, other_rows in table_by_words(other, way).items()
                }
                self.assertEqual(told, right)
                self.assertEqual({type(row) for rows in told.values() for row in rows} | {tuple}, {tuple})

    def test_at_the_limit(self):
        pairs = [("a", "b"), ("b", "a"), ("c", "d"), ("d", "c"), ("e", "f"), ("f", "e")]
        one = Piece(list("abcdef"), ["g", "h", "i"], pairs + [("g", "a"), ("h", "c"), ("i", "e")], ["a", "c", "e"])
        names = {name: name.upper().lower() + "0" for name in "abcdefghi"}
        other = Piece([names[name] for name in "abcdef"], [names[name] for name in "ghi"], [
            (names[two], names[three]) for two, three in pairs + [("g", "a"), ("h", "c"), ("i", "e")]],
            [names[name] for name in "ace"])
        for way in ("least", "settled"):
            told = tables_joined(table_of(one, way), table_of(other, way), way)
            self.assertEqual(len(told), 729 if way == "least" else 64)
            self.assertEqual(told, table_of(pieces_joined(one, other), way))
        self.assertEqual(len(tables_joined(table_of(one, "whole"), table_of(OTHER, "whole"), "whole")), 81)

    def test_lists_for_tuples_and_other_orders(self):
        table = {(label,): [[label]] for label in reversed(LABELS)}
        told = tables_joined(one=table, other={(): ([],)}, way="whole")
        self.assertEqual(told, {(label,): [(label,)] for label in LABELS})
        self.assertTrue(ascending(told))
        told[("in",)].clear()
        self.assertEqual(table, {(label,): [[label]] for label in LABELS})

    def test_tables_without_rows(self):
        empty = {(): []}
        self.assertEqual(tables_joined(empty, {(): [("in",)]}, "whole"), {(): []})
        self.assertEqual(tables_joined({(): [()]}, {(): [()]}, "least"), {(): [()]})
        self.assertEqual(tables_joined({("in",): [], ("out",): [("in",)]}, {(): [("out",)]}, "settled"),
                         {("in",): [], ("out",): [("in", "out")]})

    def test_bad_tables(self):
        for thing in not_words(WAYS) + ["greatest", "calm", "held"]:
            self.refuses(BadWay, {"thing": thing}, tables_joined, 5, 5, thing)
        for way in WAYS:
            for thing in bad_tables(way):
                self.refuses(BadTable, {"thing": thing}, tables_joined, thing, None, way)
                self.refuses(BadTable, {"thing": thing}, tables_joined, {(): [()]}, thing, way)


class TestFedBack(Case):
    def test_parts(self):
        self.assertEqual(fed_back(ONE, 0, 1),
                         Piece(["b", "a"], ["z"], [("z", "a"), ("b", "a"), ("b", "b")], ["b", "a"]))
        self.assertEqual(fed_back(gate=0, number=1, piece=ONE),
                         Piece(["b", "a"], ["g"], [("a", "a"), ("b", "a"), ("g", "b")], ["b", "a"]))
        # An objection of both stands once.
        self.assertEqual(fed_back(ONE, 0, 0), Piece(["b", "a"], ["g"], [("b", "a"), ("g", "b")], ["b", "a"]))
        idle = Piece(["a"], ["g", "h"], [], ["a"])
        self.assertEqual(fed_back(idle, 0, 0), Piece(["a"], ["h"], [], ["a"]))

    def test_tables(self):
        many = 0
        for piece in drawn_pieces(60, 5, 3, 3, 82):
            _, ins, _, outs = piece.parts()
            for number, gate in itertools.product(range(len(outs)), range(len(ins))):
                many += 1
                other = fed_back(piece, number, gate)
                for way in WAYS:
                    told = table_fed_back(table_of(piece, way), way, number, gate)
                    self.assertEqual(told, table_of(other, way))
                    self.assertTrue(ascending(told))
                    if many % 5 == 0:
                        self.assertEqual(told, table_by_words(other, way))
                if many % 5 == 0:
                    plain = fed_back(piece_with(table_of(piece, "least")), number, gate)
                    self.assertEqual(table_of(plain, "least"), table_of(other, "least"))
        self.assertGreater(many, 60)

    def test_joined_and_fed_back_is_put_together(self):
        for one, other in zip(drawn_pieces(40, 4, 2, 2, 83, "a"), drawn_pieces(40, 4, 2, 2, 84, "b")):
            if one.parts()[3] and other.parts()[1]:
                number, gate = len(one.parts()[3]) - 1, len(one.parts()[1])
                told = fed_back(pieces_joined(one, other), number, gate)
                for way in WAYS:
                    table = tables_joined(table_of(one, way), table_of(other, way), way)
                    self.assertEqual(table_fed_back(table, way, number, gate), table_of(told, way))

    def test_tables_by_words(self):
        table = {("in",): [("in",), ("out",)], ("out",): [("in",), ("undecided",)], ("undecided",): [["undecided"]]}
        self.assertEqual(table_fed_back(table, "whole", 0, 0), {(): [("in",), ("undecided",)]})
        self.assertEqual(table_fed_back(gate=0, number=0, way="settled", table={("in",): [], ("out",): [["out"]]}),
                         {(): [("out",)]})
        table = {("in",): [("in", "out")], ("out",): [("in", "out")], ("undecided",): [("in", "undecided")]}
        self.assertEqual(table_fed_back(table, "least", 0, 0), {(): [("in", "out")]})
        self.assertEqual(table_fed_back(table, "least", 1, 0), {(): [("in", "undecided")]})

    def test_where_there_is_no_row(self):
        for way in ("whole", "settled"):
            labels = LABELS if way == "whole" else LABELS[:2]
            empty = {row: [] for row in label_rows(2, labels)}
            for number in (0, 1, 7, 10 ** 8):
                self.assertEqual(table_fed_back(empty, way, number, 1), {(label,): [] for label in labels})
            for thing in [thing for thing in not_indexes(10 ** 9) if thing != 10 ** 40]:
                if thing != 10 ** 9:
                    self.refuses(NoGate, {"thing": thing}, table_fed_back, empty, way, thing, 0)
            one = empty | {("in", "in"): [("in",)]}
            self.refuses(NoGate, {"thing": 1}, table_fed_back, one, way, 1, 0)

    def test_new_each_time(self):
        table = {(label,): [[label]] for label in LABELS}
        told = table_fed_back(table, "whole", 0, 0)
        self.assertEqual(told, {(): [("in",), ("out",), ("undecided",)]})
        told[()].clear()
        self.assertEqual(table_fed_back(table, "whole", 0, 0), {(): [("in",), ("out",), ("undecided",)]})
        self.assertEqual(table, {(label,): [[label]] for label in LABELS})

    def test_errors(self):
        for thing in not_pieces():
            self.refuses(BadPiece, {"thing": thing}, fed_back, thing, None, None)
        for thing in not_indexes(2):
            self.refuses(NoGate, {"thing": thing}, fed_back, ONE, thing, None)
            self.refuses(NoGate, {"thing": thing}, fed_back, ONE, 1, thing)
        self.refuses(NoGate, {"thing": 0}, fed_back, Piece(["a"], ["g"], [], []), 0, 0)
        self.refuses(NoGate, {"thing": 0}, fed_back, Piece(["a"], [], [], ["a"]), 0, 0)
        for thing in not_words(WAYS) + ["greatest", "calm", "held"]:
            self.refuses(BadWay, {"thing": thing}, table_fed_back, 5, thing, None, None)
        for way in WAYS:
            for thing in bad_tables(way):
                self.refuses(BadTable, {"thing": thing}, table_fed_back, thing, way, None, None)
            good = {row: [("in", "out", "out")] for row in label_rows(2, LABELS[:2] if way == "settled" else LABELS)}
            for thing in not_indexes(3):
                self.refuses(NoGate, {"thing": thing}, table_fed_back, good, way, thing, None)
            for thing in not_indexes(2):
                self.refuses(NoGate, {"thing": thing}, table_fed_back, good, way, 2, thing)
            self.refuses(NoGate, {"thing": 0}, table_fed_back, {(): [("in",)]}, way, 0, 0)
