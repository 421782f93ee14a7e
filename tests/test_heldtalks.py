"""Points 24, 25, 26 and 31: talks about held lots."""

import unittest

from objections.debates import Debate
from objections.errors import BadTalker, NoStatement
from objections.heldtalks import held_length, held_opposer, held_plan, held_talk, least_held
from objections.lots import is_lot, lots_of
from tests.helper import (
    all_debates, any_objects, calm, drawn_debates, ignored, lots_by_words, met, not_functions, not_statements, objects,
    small_debates, tiny_debates,
)

EXAMPLE = Debate(["a", "b", "c"], [("a", "b"), ("b", "a"), ("b", "c"), ("c", "c")])
CHAIN = Debate(["a", "b", "c", "d"], [("b", "a"), ("c", "b"), ("d", "b"), ("d", "a"), ("a", "d")])


def broken(said):
    raise AssertionError("nobody is asked")


def unmet(debate, lot):
    """The open objectors of a lot."""
    return sorted({
        one for member in lot for one in met(debate, member) if not objects(debate, lot, one)
    })


def calm_answers(debate, lot, objector):
    return [one for one in met(debate, objector) if calm(debate, lot + [one])]


class TestHeldTalk(unittest.TestCase):
    def test_example(self):
        self.assertEqual(held_talk(EXAMPLE, "b", broken, broken), (["b"], "held"))
        self.assertEqual(held_length(EXAMPLE, "b"), ("defender", 1))
        self.assertEqual(held_talk(EXAMPLE, "c", broken, broken), ([], "clash"))
        self.assertEqual(held_length(EXAMPLE, "c"), ("opposer", 0))

    def test_each_end(self):
        def talk(defender, opposer):
            return held_talk(CHAIN, "a", lambda said: defender, lambda said: opposer)

        self.assertEqual(talk("c", "b"), (["a", "b", "c"], "held"))
        self.assertEqual(talk("c", None), (["a"], "given up"))
        self.assertEqual(talk(None, "b"), (["a", "b"], "conceded"))
        self.assertEqual(talk("d", "b"), (["a", "b"], "clash"))
        for thing in any_objects() + ["d", "c", ["b"]]:
            if thing is not None:
                self.assertEqual(talk("c", thing), (["a"], "odd objector"))
            if thing is not None and thing not in ("c", "d"):
                self.assertEqual(talk(thing, "b"), (["a", "b"], "odd answer"))
        self.assertIs(type(talk("c", "b")), tuple)
        self.assertIs(type(talk("c", "b")[0]), list)

    def test_answered_objectors_are_odd(self):
        debate = Debate(["a", "b", "c", "d", "e"], [("b", "a"), ("c", "b"), ("d", "a"), ("e", "d")])
        told = held_talk(debate, "a", lambda said: "c", lambda said: "b")
        self.assertEqual(told, (["a", "b", "c"], "odd objector"))
        answers, objections = {2: "c", 4: "e"}, {1: "b", 3: "d"}
        told = held_talk(debate, "a", lambda said: answers[len(said)], lambda said: objections[len(said)])
        self.assertEqual(told, (["a", "b", "c", "d", "e"], "held"))

    def test_an_odd_answer_that_would_clash_too_is_odd(self):
        debate = Debate(["a", "b", "c"], [("b", "a"), ("c", "a"), ("a", "c")])
        self.assertEqual(held_talk(debate, "a", lambda said: "c", lambda said: "b"), (["a", "b"], "odd answer"))
        loop = Debate(["a", "b", "c"], [("b", "a"), ("c", "b"), ("c", "c")])
        self.assertEqual(held_talk(loop, "a", lambda said: "c", lambda said: "b"), (["a", "b"], "clash"))

    def test_what_talkers_are_handed(self):
        heard = []

        def defender(said):
            heard.append(said)
            return "c"

        def opposer(said):
            heard.append(said)
            return "b"

        held_talk(debate=CHAIN, statement="a", opposer=opposer, defender=defender)
        self.assertEqual(heard, [("a",), ("a", "b")])
        self.assertEqual([type(said) for said in heard], [tuple, tuple])

    def test_what_they_raise_comes_out(self):
        for error in (KeyError("x"), ValueError(), StopIteration()):
            def faulty(said, error=error):
                raise error
            for talkers in ((ignored, faulty), (faulty, lambda said: "b")):
                with self.assertRaises(type(error)) as caught:
                    held_talk(CHAIN, "a", *talkers)
                self.assertIs(caught.exception, error)

    def test_errors_in_their_order(self):
        for thing in not_statements(EXAMPLE):
            with self.assertRaises(NoStatement) as caught:
                held_talk(EXAMPLE, thing, None, None)
            self.assertIs(caught.exception.thing, thing)
        for name in "bc":
            for thing in not_functions():
                with self.assertRaises(BadTalker) as caught:
                    held_talk(EXAMPLE, name, thing, 7)
                self.assertIs(caught.exception.thing, thing)
                with self.assertRaises(BadTalker) as caught:
                    held_talk(EXAMPLE, name, ignored, thing)
                self.assertIs(caught.exception.thing, thing)


def plan_holds(test, debate, said, plan):
    """That a plan wins whatever the opposer says."""
    lot = said[::2]
    waiting = unmet(debate, lot)
    if not waiting:
        test.assertTrue(is_lot(debate, "held", lot))
    for objector in waiting:
        told = plan(tuple(said) + (objector,))
        test.assertIn(told, calm_answers(debate, lot, objector))
        plan_holds(test, debate, said + [objector, told], plan)


def opposer_holds(test, debate, said, opposer):
    """That an opposer wins whatever the defender says."""
    told = opposer(tuple(said))
    test.assertIn(told, unmet(debate, said[::2]))
    for answer in calm_answers(debate, said[::2], told):
        opposer_holds(test, debate, said + [told, answer], opposer)


class TestPlans(unittest.TestCase):
    def test_just_one(self):
        for debate in small_debates():
            opposer = held_opposer(debate)
            for name in debate.statements():
                plan = held_plan(debate, name)
                self.assertIs(plan is not None, any(name in lot for lot in lots_of(debate, "held")))
                if plan is not None:
                    plan_holds(self, debate, [name], plan)
                    self.assertEqual(held_talk(debate, name, plan, opposer)[1], "held")
                    self.assertIn(held_talk(debate, name, plan, ignored)[1], ("held", "given up"))
                    self.assertIn(held_talk(debate, name, plan, lambda said: 5)[1], ("held", "odd objector"))
                elif (name, name) not in debate.objections():
                    opposer_holds(self, debate, [name], opposer)
                    self.assertEqual(held_talk(debate, name, ignored, opposer)[1], "conceded")
                    self.assertEqual(held_talk(debate, name, lambda said: 5, opposer)[1], "odd answer")
                else:
                    self.assertEqual(held_talk(debate, name, ignored, opposer), ([], "clash"))

    def test_the_same_for_equal_debates(self):
        for debate in drawn_debates(20, 6, 8):
            other = Debate(debate.statements()[::-1], debate.objections()[::-1])
            for name in debate.statements():
                plan = held_plan(debate, name)
                if plan is not None:
                    told = held_talk(debate, name, plan, held_opposer(debate))
                    self.assertEqual(held_talk(other, name, held_plan(other, name), held_opposer(other)), told)

    def test_by_names_and_lists(self):
        plan = held_plan(statement="a", debate=CHAIN)
        self.assertEqual(plan(("a", "b")), plan(["a", "b"]))
        self.assertEqual(held_opposer(debate=CHAIN)(["a"]), "b")

    def test_no_statement(self):
        for thing in not_statements(EXAMPLE):
            for ask in (held_plan, least_held, held_length):
                with self.assertRaises(NoStatement) as caught:
                    ask(EXAMPLE, thing)
                self.assertIs(caught.exception.thing, thing)


def outcome(debate, lot):
    """Who wins from a lot said, and how many statements the defender says, by trying all ways."""
    waiting = unmet(debate, lot)
    if not waiting:
        return ("defender", len(lot))
    rows = []
    for objector in waiting:
        found = [outcome(debate, lot + [answer]) for answer in calm_answers(debate, lot, objector)]
        won = [many for wins, many in found if wins == "defender"]
        if won:
            rows.append(("defender", min(won)))
        else:
            rows.append(("opposer", max([many for _, many in found], default=len(lot))))
    lost = [many for wins, many in rows if wins == "opposer"]
    return ("opposer", min(lost)) if lost else ("defender", max(many for _, many in rows))


class TestHowLong(unittest.TestCase):
    def test_least_held(self):
        for debate in small_debates():
            held = lots_by_words(debate, "held")
            for name in debate.statements():
                lots = [lot for lot in held if name in lot]
                self.assertEqual(least_held(debate, name), [
                    lot for lot in lots if len(lot) == min(len(other) for other in lots)
                ])

    def test_held_length(self):
        few = tiny_debates() + all_debates(["a", "b", "c"])
        for debate in few + drawn_debates(40, 4, 9) + drawn_debates(40, 5, 10):
            for name in debate.statements():
                if (name, name) in debate.objections():
                    self.assertEqual(held_length(debate, name), ("opposer", 0))
                else:
                    self.assertEqual(held_length(debate, name), outcome(debate, [name]))
                lots = least_held(debate, name)
                if lots:
                    self.assertEqual(held_length(debate, name), ("defender", len(lots[0])))

    def test_longer_losses(self):
        found = set()
        for debate in drawn_debates(150, 7, 11):
            for name in debate.statements():
                told = held_length(debate, name)
                if (name, name) not in debate.objections():
                    self.assertEqual(told, outcome(debate, [name]))
                found.add(told)
        self.assertTrue({("opposer", many) for many in range(4)} | {("defender", 1), ("defender", 2)} <= found)

    def test_nine_and_twelve_statements(self):
        names = list("abcdefghi")
        ring = Debate(names, [(names[at - 1], names[at]) for at in range(9)])
        self.assertEqual(held_length(statement="a", debate=ring), ("opposer", 4))
        for debate in drawn_debates(5, 12, 12):
            for name in debate.statements():
                self.assertIs(held_plan(debate, name) is None, least_held(debate=debate, statement=name) == [])

    def test_new_each_time(self):
        least_held(CHAIN, "a")[0].clear()
        self.assertEqual(least_held(CHAIN, "a"), [["a", "c"]])
