"""Points 114 to 119 and 121: halls, their deeds and questions, what would be, back and on."""

import itertools
import random

from objections import errors
from objections.debates import Debate
from objections.halls import Hall
from objections.labels import labels_of, stands
from objections.lots import least_lot, lots_of
from objections.pieces import cut_out
from objections.piecetables import table_of
from objections.ranking import rank_of
from objections.surelots import sure_lot
from tests.hallwords import EXAMPLE, TABLE_WAYS, Model, as_tuples, drawn_deed, drawn_question, is_question
from tests.helper import HOWS, WAYS, Case, any_objects, ascending, drawn_debates, subsets

WON = ("won", "y")
LABEL = ("label", "a")


def hall_by(*deeds):
    hall = Hall()
    for deed in deeds:
        hall.do(deed)
    return hall


def hall_of(debate, speaker="x"):
    """A hall in which one speaker says a debate."""
    hall = hall_by(*[("say", speaker, name) for name in debate.statements()])
    for one, other in debate.objections():
        hall.do(("object", speaker, one, other))
    return hall


def told_by(hall):
    """All that a hall tells of itself."""
    taken = hall.copy()
    further = []
    while taken.again() is not None:
        further.append(taken.deeds()[-1])
    return (hall.now(), hall.speakers(), hall.watched(), hall.count(), hall.deeds(), further)


class TestExample(Case):
    def test_example(self):
        hall = hall_by(*EXAMPLE)
        self.assertEqual(hall.watched(), [(LABEL, "out", False), (WON, 1, True)])
        self.assertEqual(hall.answer(LABEL), "out")
        self.assertEqual(hall.answer(question=["won", "y"]), 1)
        self.assertEqual(hall.helps("z", "a"), [])
        self.assertEqual(hall.would(("take", "y", "b")), [(LABEL, "out", "in"), (WON, 1, 0)])
        self.assertEqual(hall.do(("free", WON)), [])
        self.assertEqual(hall.helps(statement="a", speaker="z"), [("object", "z", "c", "b")])
        self.assertEqual(hall.do(deed=("object", "z", "c", "b")), [(LABEL, "out", "in")])

    def test_nothing(self):
        hall = Hall()
        self.assertEqual(told_by(hall), (Debate([], []), {}, [], 0, [], []))
        self.assertEqual((hall.undo(), hall.again()), (None, None))
        self.assertEqual(hall.answer(("lots", "whole")), 1)
        self.assertEqual(hall.answer(("won", "x")), 0)
        self.assertTrue(hall == Hall() == hall.copy() == hall.at(0))
        self.refuses(errors.NoSpeaker, {"name": "x"}, hall.helps, "x", "a")


class TestWords(Case):
    def test_many_deeds_by_words(self):
        """Each deed does what the words say, or is refused and leaves all as it was."""
        for seed in range(45):
            draw = random.Random(seed)
            names = list("abcd")[:2 + seed % 3]
            hall, models, taken = Hall(), [Model()], []
            for turn in range(45):
                if draw.random() < 0.15:
                    self.go_back_or_on(hall, models, taken, draw.random() < 0.6)
                    continue
                deed = drawn_deed(draw, models[-1], names)
                told, behind = self.check_deed(hall, models[-1], deed, turn & 1)
                if told is None and len(models[-1].asked) <= 5:
                    self.assertEqual(hall.do(deed), behind[0])
                    models.append(behind[1])
                    taken.clear()
                self.check_state(hall, models, taken)
                if turn % 9 == 0:
                    self.check_helps(hall, models[-1])

    def check_deed(self, hall, model, deed, is_first):
        """What would and do tell of a deed; it is not done where it can be."""
        kind, kept, behind = model.told(deed, would=True)
        ahead = told_by(hall)
        if kind is None:
            self.assertEqual(hall.would(deed), kept)
        else:
            self.refuses(kind, kept, hall.would, deed)
        self.assertEqual(told_by(hall), ahead)
        kind, kept, behind = model.told(deed)
        if kind is not None:
            self.refuses(kind, kept, hall.do, deed)
            self.assertEqual(told_by(hall), ahead)
        elif is_first:
            self.assertEqual(hall.trial(lambda other: other.do(deed)), kept)
            self.assertEqual(told_by(hall), ahead)
        return kind, (kept, behind)

    def go_back_or_on(self, hall, models, taken, is_back):
        if is_back:
            deed = hall.deeds()[-1] if hall.count() else None
            self.assertEqual(hall.undo(), deed)
            if deed is not None:
                taken.append((deed, models.pop()))
        else:
            deed = taken[-1][0] if taken else None
            self.assertEqual(hall.again(), deed)
            if deed is not None:
                models.append(taken.pop()[1])
        self.check_state(hall, models, taken)

    def check_state(self, hall, models, taken):
        model = models[-1]
        self.assertEqual(hall.now(), model.debate())
        self.assertEqual(hall.speakers(), model.speakers())
        self.assertTrue(ascending(hall.speakers()))
        self.assertEqual(hall.watched(), model.watched())
        self.assertEqual(hall.count(), len(models) - 1)
        self.assertEqual(told_by(hall)[5], [deed for deed, _ in taken[::-1]])

    def check_helps(self, hall, model):
        for speaker, statement in itertools.product(model.speakers(), model.owners):
            ahead = told_by(hall)
            self.assertEqual(hall.helps(speaker, statement), model.helps(speaker, statement))
            self.assertEqual(told_by(hall), ahead)


class TestQuestions(Case):
    def all_questions(self, names):
        found = [("stands", way, name, how) for way in WAYS for name in names for how in HOWS]
        found += [("lots", way) for way in WAYS] + [("won", speaker) for speaker in ("x", "y")]
        found += [(kind, name) for kind in ("label", "rank", "sure") for name in names]
        return found

    def test_answers_are_what_the_earlier_sections_tell(self):
        for turn, debate in enumerate(drawn_debates(12, 3, 900) + drawn_debates(10, 5, 901) + [Debate([], [])]):
            hall = hall_of(debate)
            for question in self.all_questions(debate.statements()):
                told = hall.answer(question)
                kind, rest = question[0], question[1:]
                right = {
                    "stands": lambda: stands(debate, *rest), "lots": lambda: len(lots_of(debate, *rest)),
                    "label": lambda: labels_of(debate, least_lot(debate))[rest[0]],
                    "rank": lambda: rank_of(debate, *rest), "sure": lambda: rest[0] in sure_lot(debate),
                    "won": lambda: len(least_lot(debate)) if rest[0] == "x" else 0,
                }[kind]()
                self.assertEqual((told, type(told)), (right, type(right)), (turn, question))

    def test_alike(self):
        seen = set()
        for debate in drawn_debates(12, 3, 902) + drawn_debates(12, 5, 903):
            hall = hall_of(debate)
            lots = subsets(debate.statements())[::1 if len(debate) < 4 else 5]
            for one, other, way in itertools.product(lots, lots, TABLE_WAYS):
                pieces = [cut_out(debate, lot)[1] for lot in (one, other)]
                gates = [[len(piece.parts()[at]) for at in (1, 3)] for piece in pieces]
                right = None
                if gates[0] == gates[1]:
                    right = table_of(pieces[0], way) == table_of(pieces[1], way)
                told = hall.answer(("alike", one, tuple(other), way))
                self.assertIs(told, right, (debate.objections(), one, other, way))
                seen.add((told, one == other))
        self.assertEqual(seen, {(True, True), (True, False), (False, False), (None, False)})

    def test_is_question(self):
        hall = hall_by(*EXAMPLE)
        right = [("alike", ["a"], ("b", "c"), "whole"), ("alike", (), [], "settled"), ("won", "nobody")]
        for question in self.all_questions(["a", "b", "c"]) + right:
            self.assertIs(hall.is_question(question), True)
            self.assertIs(hall.is_question(thing=list(question)), True)
        odd = [
            ("stands", "whole", "a"), ("stands", "whole", "d", "all"), ("stands", "alike", "a", "all"),
            ("stands", "whole", "a", "every"), ("stands", "a", "whole", "all"), ("lots",), ("lots", "tops"),
            ("lots", "whole", "a"), ("label", "d"), ("label", ["a"]), ("label",), ("rank", "A"), ("sure", None),
            ("sure", "a", "b"), ("won", "A"), ("won", ""), ("won", None), ("won", "a" * 13), ("won", ["y"]),
            ("alike", ["a"], ["b"]), ("alike", ["a"], ["b"], "held"), ("alike", ["a"], ["b"], "greatest"),
            ("alike", ["b", "a"], [], "whole"), ("alike", [], ["c", "b"], "whole"), ("alike", ["a", "a"], [], "whole"),
            ("alike", ["d"], [], "whole"), ("alike", "a", [], "whole"), ("alike", [], None, "least"),
            ("alike", [["a"]], [], "whole"), ("Label", "a"), (["label"], "a"), (None, "a"), {"label": "a"}, "label a",
        ]
        for thing in any_objects() + odd:
            self.assertIs(hall.is_question(thing), False)
            self.refuses(errors.BadQuestion, {"thing": thing}, hall.answer, thing)
            for word in ("watch", "hold", "free"):
                self.refuses(errors.BadQuestion, {"thing": thing}, hall.do, (word, thing))
                self.refuses(errors.BadQuestion, {"thing": thing}, hall.would, [word, thing])
        for part in any_objects():
            for turn, right in enumerate([("stands", "whole", "a", "all"), ("alike", (), (), "whole")] * 2):
                thing = list(right)
                thing[1 + turn % 3] = part
                self.assertIs(hall.is_question(thing), is_question(hall.now(), thing))
        self.assertIs(Hall().is_question(("alike", [], (), "least")), True)
        self.assertIs(Hall().is_question(("label", "a")), False)

    def test_told_questions_have_tuples(self):
        question = ["alike", ["a"], ["b", "c"], "whole"]
        hall = hall_by(*EXAMPLE, ["watch", question], ["hold", ["lots", "held"]])
        self.assertEqual(question, ["alike", ["a"], ["b", "c"], "whole"])
        told = hall.watched()[2][0]
        self.assertEqual(told, ("alike", ("a",), ("b", "c"), "whole"))
        self.assertEqual([type(part) for part in told], [str, tuple, tuple, str])
        self.assertEqual(hall.deeds()[-2:], [("watch", as_tuples(question)), ("hold", ("lots", "held"))])
        self.assertEqual({type(row) for row in hall.watched()} | {type(deed) for deed in hall.deeds()}, {tuple})
        self.refuses(errors.IsWatched, {"thing": question}, hall.do, ("watch", question))
        self.refuses(errors.InUse, {"question": LABEL}, hall.do, ["take", "x", "a"])
        hall.do(("free", ["label", "a"]))
        self.refuses(errors.InUse, {"question": as_tuples(question)}, hall.do, ["take", "x", "a"])
        question[1].clear()
        self.assertEqual(hall.watched()[1][0], ("alike", ("a",), ("b", "c"), "whole"))


class TestDeeds(Case):
    def test_plain_ones(self):
        hall = Hall()
        self.assertEqual(hall.do(["say", "x", "b"]), [])
        hall.do(("say", "x", "a"))
        hall.do(("say", "y", "c"))
        self.assertEqual(hall.speakers(), {"x": ["a", "b"], "y": ["c"]})
        for one, other in (("a", "c"), ("a", "a"), ("b", "a")):
            hall.do(("object", "x", one, other))
        hall.do(("object", "y", "c", "a"))
        self.assertEqual(hall.now().objections(), [("a", "a"), ("a", "c"), ("b", "a"), ("c", "a")])
        hall.do(("yield", "x", "a", "a"))
        self.assertEqual(hall.now().objections(), [("a", "c"), ("b", "a"), ("c", "a")])
        hall.do(("take", "x", "a"))
        self.assertEqual(hall.now(), Debate(["b", "c"], []))
        hall.do(("object", "y", "c", "b"))
        hall.do(("leave", "x"))
        self.assertEqual((hall.now(), hall.speakers()), (Debate(["c"], []), {"y": ["c"]}))
        hall.do(("take", "y", "c"))
        self.assertEqual((hall.now(), hall.speakers()), (Debate([], []), {}))
        self.refuses(errors.NoSpeaker, {"name": "y"}, hall.do, ("leave", "y"))

    def test_bad_deed(self):
        hall = hall_by(*EXAMPLE)
        odd = [
            ("say", "x"), ("say", "x", "d", "e"), ("say", "X", "d"), ("say", "x", "D"), ("say", "x", ["d"]),
            ("say", None, "d"), ("say", "x", "d" * 13), ("object", "y", "b"), ("object", "y", "b", "a", "c"),
            ("object", "y", "b", None), ("object", "y", ("b",), "a"), ("yield", "y", "b"), ("yield", "y", "b", 1),
            ("take", "y"), ("take", "y", "b", "a"), ("take", 1, "b"), ("leave",), ("leave", "x", "a"), ("leave", None),
            ("leave", ["x"]), ("watch",), ("watch", "label", "a"), ("hold",), ("hold", LABEL, LABEL), ("free",),
            ("Say", "x", "d"), (["say"], "x", "d"), ("undo",), {"leave": "x"}, "leave x", (None, "x"), ("say",),
        ]
        ahead = told_by(hall)
        for thing in any_objects() + odd:
            self.refuses(errors.BadDeed, {"thing": thing}, hall.do, thing)
            self.refuses(errors.BadDeed, {"thing": thing}, hall.would, thing)
        self.assertEqual(told_by(hall), ahead)

    def test_errors_in_their_order(self):
        hall = hall_by(*EXAMPLE)
        for deed, kind, kept in [
            (("say", "x", "b"), errors.TakenName, {"name": "b"}),
            (("leave", "w"), errors.NoSpeaker, {"name": "w"}),
            (("object", "y", "d", "e"), errors.NoStatement, {"thing": "d"}),
            (("object", "w", "a", "e"), errors.NoStatement, {"thing": "e"}),
            (("object", "w", "a", "b"), errors.NotOwn, {"name": "a"}),
            (("object", "x", "b", "a"), errors.NotOwn, {"name": "b"}),
            (("object", "y", "b", "a"), errors.IsObjected, {"one": "b", "other": "a"}),
            (("yield", "y", "d", "e"), errors.NoStatement, {"thing": "d"}),
            (("yield", "w", "b", "e"), errors.NoStatement, {"thing": "e"}),
            (("yield", "x", "b", "a"), errors.NotOwn, {"name": "b"}),
            (("yield", "y", "b", "c"), errors.NoObjection, {"one": "b", "other": "c"}),
            (("take", "w", "d"), errors.NoStatement, {"thing": "d"}),
            (("take", "z", "a"), errors.NotOwn, {"name": "a"}),
            (("watch", ("label", "d")), errors.BadQuestion, {"thing": ("label", "d")}),
            (("watch", LABEL), errors.IsWatched, {"thing": LABEL}),
            (("watch", WON), errors.IsWatched, {"thing": WON}),
            (("hold", WON), errors.IsWatched, {"thing": WON}),
            (("free", ("won", "x")), errors.NotWatched, {"thing": ("won", "x")}),
            (("take", "x", "a"), errors.InUse, {"question": LABEL}),
            (("leave", "x"), errors.InUse, {"question": LABEL}),
            (("object", "z", "c", "b"), errors.WouldChange, {"question": WON}),
            (("leave", "y"), errors.WouldChange, {"question": WON}),
        ]:
            ahead = told_by(hall)
            self.refuses(kind, kept, hall.do, deed)
            self.assertEqual(told_by(hall), ahead)
            if kind is errors.WouldChange:
                self.assertTrue(hall.would(deed))
            else:
                self.refuses(kind, kept, hall.would, list(deed))
            self.assertEqual(told_by(hall), ahead)

    def test_in_use_ahead_of_would_change(self):
        hall = hall_by(*EXAMPLE[:4], ("hold", WON), ("hold", ("label", "a")), ("watch", ("label", "b")))
        self.refuses(errors.InUse, {"question": ("label", "b")}, hall.do, ("take", "y", "b"))
        self.refuses(errors.InUse, {"question": ("label", "b")}, hall.would, ("take", "y", "b"))
        hall.do(("free", ("label", "b")))
        self.refuses(errors.WouldChange, {"question": WON}, hall.do, ("take", "y", "b"))
        hall.do(("free", WON))
        self.refuses(errors.WouldChange, {"question": LABEL}, hall.do, ("take", "y", "b"))
        self.assertEqual(hall.would(("take", "y", "b")), [(LABEL, "out", "in")])

    def test_watched_then_held_then_freed(self):
        hall = hall_by(*EXAMPLE[:4])
        self.assertEqual(hall.do(("watch", LABEL)), [])
        hall.do(("watch", ("rank", "b")))
        self.assertEqual(hall.do(("hold", LABEL)), [])
        self.assertEqual(hall.watched(), [(LABEL, "out", True), (("rank", "b"), 0, False)])
        self.refuses(errors.IsWatched, {"thing": LABEL}, hall.do, ("hold", LABEL))
        hall.do(("free", LABEL))
        self.assertEqual(hall.watched(), [(("rank", "b"), 0, False)])
        hall.do(("hold", LABEL))
        self.assertEqual(hall.watched(), [(("rank", "b"), 0, False), (LABEL, "out", True)])

    def test_what_is_held_stays_so(self):
        hall = hall_by(*EXAMPLE[:4], ("hold", WON), ("watch", LABEL), ("hold", ("rank", "b")), ("hold", LABEL))
        self.assertEqual([(question, held) for question, _, held in hall.watched()], [
            (WON, True), (LABEL, True), (("rank", "b"), True)])
        hall.do(("watch", ("lots", "whole")))
        hall.do(("free", LABEL))
        self.assertEqual([held for _, _, held in hall.watched()], [True, True, False])

    def test_all_with_a_statement_goes_with_it(self):
        pairs = [("a", "a"), ("a", "b"), ("b", "a"), ("b", "c"), ("c", "b"), ("c", "c")]
        hall = hall_of(Debate(["a", "b", "c"], pairs))
        hall.do(("watch", ("lots", "calm")))
        self.assertEqual(hall.do(("take", "x", "b")), [(("lots", "calm"), 2, 1)])
        self.assertEqual(hall.now(), Debate(["a", "c"], [("a", "a"), ("c", "c")]))

    def test_told_changes_go_by_the_order_of_questions(self):
        hall = hall_by(*EXAMPLE[:3], ("watch", ("won", "y")), ("watch", ("sure", "a")), ("watch", ("rank", "b")),
                       ("watch", ("label", "a")))
        told = hall.do(("object", "y", "b", "a"))
        self.assertEqual(told, [(("sure", "a"), True, False), (LABEL, "in", "out")])
        self.assertEqual({type(row) for row in told}, {tuple})
        told.clear()
        self.assertEqual(hall.do(("object", "y", "b", "b")), [
            (WON, 1, 0), (("rank", "b"), 0, None), (LABEL, "out", "undecided")])


class TestAhead(Case):
    def test_helps_by_words(self):
        for seed in range(25):
            draw = random.Random(910 + seed)
            names, hall, model = list("abcd")[:2 + seed % 3], Hall(), Model()
            while len(hall.deeds()) < 14:
                deed = drawn_deed(draw, model, names)
                if model.told(deed)[0] is None and deed[0] not in ("take", "leave"):
                    hall.do(deed)
                    model = model.told(deed)[2]
            for speaker, statement in itertools.product(model.speakers(), model.owners):
                told = hall.helps(speaker, statement)
                self.assertEqual(told, model.helps(speaker, statement))
                for deed in told:
                    self.assertEqual((type(deed), deed[1]), (tuple, speaker))
                    behind = hall.copy()
                    behind.do(deed)
                    self.assertIn(statement, least_lot(behind.now()))

    def test_errors_of_helps(self):
        hall = hall_by(*EXAMPLE)
        for thing in any_objects() + ["w", "X", ["x"]]:
            self.refuses(errors.NoSpeaker, {"name": thing}, hall.helps, thing, None)
        for thing in any_objects() + ["d", ["a"]]:
            if thing not in ("a", "b", "c"):
                self.refuses(errors.NoStatement, {"thing": thing}, hall.helps, "z", thing)

    def test_what_is_in_use_helps_not(self):
        hall = hall_by(*EXAMPLE[:4])
        self.assertEqual(hall.helps("y", "a"), [("take", "y", "b"), ("yield", "y", "b", "a")])
        hall.do(("watch", ("label", "b")))
        self.assertEqual(hall.helps("y", "a"), [("yield", "y", "b", "a")])
        hall.do(("hold", LABEL))
        self.assertEqual(hall.helps("y", "a"), [])
        self.assertNotIn(("take", "z", "c"), hall.helps("z", "c"))


class TestBackAndOn(Case):
    def test_back_and_on(self):
        hall = hall_by(*EXAMPLE)
        self.assertEqual((hall.count(), hall.deeds()), (6, EXAMPLE))
        self.assertEqual([hall.undo() for _ in range(7)], EXAMPLE[::-1] + [None])
        self.assertEqual(hall, Hall())
        self.assertEqual([hall.again() for _ in range(7)], EXAMPLE + [None])
        self.assertEqual(hall, hall_by(*EXAMPLE))
        hall.undo()
        hall.undo()
        with self.assertRaises(errors.TakenName):
            hall.do(("say", "x", "a"))
        self.assertEqual(hall.again(), ("watch", LABEL))
        hall.do(("say", "x", "d"))
        self.assertEqual((hall.again(), hall.count()), (None, 6))
        self.assertEqual(hall.deeds(), EXAMPLE[:5] + [("say", "x", "d")])
        self.assertEqual(hall.undo(), ("say", "x", "d"))

    def test_a_held_question_keeps_no_deed_from_being_taken_back(self):
        hall = hall_by(*EXAMPLE)
        for _ in range(3):
            hall.undo()
        self.assertEqual(hall.watched(), [])
        self.assertEqual(hall.answer(LABEL), "in")

    def test_at(self):
        hall = hall_by(*EXAMPLE)
        hall.do(("free", WON))
        hall.undo()
        for number in range(7):
            other = hall.at(number)
            self.assertIsNot(other, hall)
            self.assertEqual(told_by(other), told_by(hall_by(*EXAMPLE[:number])))
            self.assertIsNone(other.again())
            other.do(("say", "x", "new"))
        self.assertEqual(told_by(hall)[4:], (EXAMPLE, [("free", WON)]))
        self.assertEqual(hall.at(number=2).deeds(), EXAMPLE[:2])
        for thing in any_objects() + [7, -1, 999999999]:
            if type(thing) is not int or not 0 <= thing <= 6:
                self.refuses(errors.NoCount, {"thing": thing}, hall.at, thing)

    def test_copies_go_on_by_themselves(self):
        hall = hall_by(*EXAMPLE)
        hall.undo()
        other = hall.copy()
        self.assertEqual(told_by(other), told_by(hall))
        self.assertEqual(other.again(), EXAMPLE[-1])
        self.assertEqual(hall.watched(), [(LABEL, "out", False)])
        hall.do(("object", "x", "a", "b"))
        self.assertEqual(len(other.now().objections()), 1)
        self.assertFalse(hall == other)

    def test_trial(self):
        hall = hall_by(*EXAMPLE)
        hall.undo()
        ahead = told_by(hall)
        seen = []

        def work(inner):
            seen.append(inner)
            inner.do(("object", "z", "c", "b"))
            while inner.undo():
                pass
            inner.do(("say", "w", "new"))
            return [inner.deeds()]

        self.assertEqual(hall.trial(work=work), [[("say", "w", "new")]])
        self.assertIs(seen[0], hall)
        self.assertEqual(told_by(hall), ahead)
        self.assertIsNone(hall.trial(lambda _: None))

    def test_trials_within_trials(self):
        hall = hall_by(*EXAMPLE)
        ahead = told_by(hall)
        kept = []

        def work(depth):
            def inner(one):
                one.do(("say", "x", f"n{depth}"))
                before = told_by(one)
                if depth < 6:
                    with self.assertRaises(ZeroDivisionError):
                        one.trial(work(depth + 1))
                    self.assertEqual(told_by(one), before)
                kept.append(one.copy())
                return 1 // 0
            return inner

        with self.assertRaises(ZeroDivisionError):
            hall.trial(work(1))
        self.assertEqual(told_by(hall), ahead)
        self.assertEqual([one.count() for one in kept], [12, 11, 10, 9, 8, 7])

    def test_errors_of_a_trial_come_out(self):
        hall = hall_by(*EXAMPLE)
        error = errors.BadDeed(5)

        def work(inner):
            inner.do(("say", "x", "d"))
            raise error

        with self.assertRaises(errors.BadDeed) as caught:
            hall.trial(work)
        self.assertIs(caught.exception, error)
        self.assertEqual(hall.count(), 6)
        self.refuses(errors.TakenName, {"name": "a"}, hall.trial, lambda inner: inner.do(("say", "x", "a")))

    def test_equal_halls(self):
        hall = hall_by(*EXAMPLE)
        same = hall_by(("say", "z", "c"), ("say", "y", "b"), ("say", "x", "a"), ("hold", LABEL), ("free", LABEL),
                       ("object", "y", "b", "a"), ("watch", ("label", "a")), ("watch", WON), ("hold", WON))
        self.assertTrue(hall == same)
        self.assertFalse(hall != same)
        others = [
            hall_by(*EXAMPLE[:5]), hall_by(*EXAMPLE[:4], EXAMPLE[5], EXAMPLE[4]),
            hall_by(*EXAMPLE[:4], ("hold", LABEL), EXAMPLE[5]), hall_by(*EXAMPLE[:4], EXAMPLE[4], ("watch", WON)),
            hall_by(("say", "z", "a"), *EXAMPLE[1:]), hall_by(*EXAMPLE[:3], *EXAMPLE[4:]),
            hall_by(*EXAMPLE, ("say", "x", "d")), hall_by(*EXAMPLE[:4], ("watch", ("label", "b")), EXAMPLE[5]),
        ]
        for thing in others + any_objects() + [hall.now(), hall.deeds()]:
            self.assertFalse(hall == thing)
            self.assertFalse(thing == hall)
            self.assertTrue(hall != thing)

    def test_new_each_time(self):
        hall = hall_by(*EXAMPLE)
        ahead = told_by(hall)
        hall.speakers()["x"].clear()
        hall.speakers().clear()
        hall.watched().clear()
        hall.deeds().clear()
        hall.would(("take", "y", "b")).clear()
        hall.helps("y", "b").clear()
        self.assertEqual(told_by(hall), ahead)
        self.assertTrue(hall.helps("y", "b"))

    def test_what_is_passed_is_copied(self):
        deed = ["watch", ["alike", ["a"], ["b"], "whole"]]
        hall = hall_by(*EXAMPLE, deed)
        deed[1][1].clear()
        deed.clear()
        self.assertEqual(hall.deeds()[-1], ("watch", ("alike", ("a",), ("b",), "whole")))


class TestLimits(Case):
    def test_at_the_limit(self):
        names = [f"n{at}" for at in range(10)]
        hall = Hall()
        for at, name in enumerate(names):
            hall.do(("say", f"s{at % 3}", name))
        draw = random.Random(920)
        pairs = draw.sample(list(itertools.product(names, repeat=2)), 40)
        for one, other in pairs:
            hall.do(("object", f"s{int(one[1]) % 3}", one, other))
        questions = [
            ("lots", "greatest"), ("alike", ("n0",), ("n1",), "whole"), ("won", "s0"), ("sure", "n3"),
            ("stands", "settled", "n4", "all"),
        ]
        for question in questions:
            hall.do(("hold", question))
        self.assertEqual((hall.count(), len(hall.now()), len(hall.now().objections())), (55, 10, 40))
        self.assertEqual([row[0] for row in hall.watched()], questions)
        for speaker in hall.speakers():
            for deed in hall.helps(speaker, "n0"):
                other = hall.copy()
                other.do(deed)
                self.assertIn("n0", least_lot(other.now()))
        for number in range(56):
            self.assertEqual(hall.at(number).count(), number)
        for question in questions:
            hall.do(("free", question))
        self.assertEqual(hall.count(), 60)
        while hall.undo():
            pass
        while hall.again():
            pass
        self.assertEqual(hall.now(), Debate(names, pairs))

    def test_alike_with_as_many_gates_as_come(self):
        names = [f"n{at}" for at in range(10)]
        pairs = [(one, other) for other in names[:4] for one in names if one != other]
        hall = hall_of(Debate(names, pairs))
        for way in TABLE_WAYS:
            self.assertIs(hall.answer(("alike", ("n0",), ("n1",), way)), True)
            self.assertIs(hall.answer(("alike", ("n0", "n1"), ("n2", "n3"), way)), True)
            self.assertIsNone(hall.answer(("alike", ("n0",), ("n0", "n1"), way)))
            hall.do(("hold", ("alike", ("n0",), ("n1",), way)))
        self.assertGreater(len(hall.helps("x", "n9")), 9)

    def test_without_objections(self):
        hall = hall_of(Debate([f"n{at}" for at in range(10)], []))
        self.assertEqual(hall.answer(("lots", "calm")), 1024)
        for way in WAYS[:2]:
            hall.do(("watch", ("lots", way)))
        self.assertEqual(hall.would(("take", "x", "n3")), [(("lots", way), 1024, 512) for way in WAYS[:2]])
        self.assertEqual(len(hall.helps("x", "n0")), 99)

    def test_drawn_questions_are_mostly_questions(self):
        draw = random.Random(921)
        debate = Debate(["a", "b", "c"], [])
        hall = hall_of(debate)
        for _ in range(200):
            question = drawn_question(draw, ["a", "b", "c", "d"])
            self.assertIs(hall.is_question(question), is_question(debate, question))
