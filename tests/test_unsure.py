"""Points 70, 71 and 78: unsure debates, their fillings, and what is learned."""

from objections.debates import Debate
from objections.errors import BadDebate, BadLot, BadObjections, BadTruth, NoThing
from objections.unsure import Unsure, fillings, is_filling, learned
from tests.helper import (
    Case, all_debates, any_objects, drawn_debates, drawn_unsure, fillings_by_words, tiny_debates,
)

D = Debate(["a", "b", "c"], [("b", "a"), ("c", "b")])
U = Unsure(D, ["c"], [("b", "a")])


def has(filling, thing):
    return thing in filling.statements() + filling.objections()


def parts(debates):
    """What debates have, so that they can be compared and counted."""
    return [(debate.statements(), debate.objections()) for debate in debates]


def many_unsure():
    return drawn_unsure(40, 3, 4, 180) + drawn_unsure(30, 4, 5, 181) + [Unsure(Debate([], []), [], [])]


class TestUnsure(Case):
    def test_what_is_kept(self):
        unsure = Unsure(D, ["c", "a"], [("c", "b"), ("b", "a")])
        self.assertEqual(unsure.full(), D)
        self.assertEqual(unsure.maybe(), ["a", "c"])
        self.assertEqual(unsure.perhaps(), [("b", "a"), ("c", "b")])
        self.assertEqual(unsure.things(), ["a", "c", ("b", "a"), ("c", "b")])
        none = Unsure(D, [], [])
        self.assertEqual((none.maybe(), none.perhaps(), none.things()), ([], [], []))

    def test_by_names_and_lists_for_tuples(self):
        one = Unsure(perhaps=(["c", "b"], ["b", "a"]), maybe=("c", "a"), debate=D)
        self.assertTrue(one == Unsure(D, ["a", "c"], [("b", "a"), ("c", "b")]))
        self.assertFalse(one != Unsure(D, ["a", "c"], [("b", "a"), ("c", "b")]))
        self.assertEqual({type(pair) for pair in one.perhaps()}, {tuple})

    def test_equal_to_nothing_else(self):
        for other in (
            Unsure(D, [], [("b", "a")]), Unsure(D, ["c"], []), Unsure(D, ["c"], [("c", "b")]),
            Unsure(D, ["a"], [("b", "a")]), Unsure(Debate(["a", "b", "c"], [("b", "a")]), ["c"], [("b", "a")]),
        ):
            self.assertFalse(U == other)
            self.assertTrue(U != other)
        for thing in any_objects() + [D, U.things()]:
            self.assertFalse(U == thing)
            self.assertFalse(thing == U)

    def test_copied_and_new(self):
        maybe, pair = ["c", "a"], ["b", "a"]
        perhaps = [pair]
        unsure = Unsure(D, maybe, perhaps)
        self.assertEqual((maybe, perhaps), (["c", "a"], [["b", "a"]]))
        for row in (maybe, pair, perhaps, unsure.maybe(), unsure.perhaps(), unsure.things()):
            row.clear()
        self.assertEqual(unsure.things(), ["a", "c", ("b", "a")])

    def test_errors(self):
        for thing in any_objects():
            if not isinstance(thing, Debate):
                self.refuses(BadDebate, {"thing": thing}, Unsure, thing, 5, 5)
        self.refuses_no_lists(BadLot, lambda thing: Unsure(D, thing, 5))
        self.refuses_no_lists(BadObjections, lambda thing: Unsure(D, ["a"], thing))
        for thing in any_objects() + ["b", "d", ["c"]]:
            if thing != "a":
                self.refuses(BadLot, {"index": 1}, Unsure, D, ["b", thing, thing], 5)
        for thing in any_objects() + [("b", "a"), ["b", "a"], ("a", "b"), ("c", "a"), ("b",), ("b", "a", "c"), "ba",
                                      ("x", "a"), (["c"], "b"), ("c", None)]:
            self.refuses(BadObjections, {"index": 1}, Unsure, D, ["a"], [("b", "a"), thing, thing])


class TestFillings(Case):
    def test_example(self):
        self.assertEqual(parts(fillings(U)), [
            (["a", "b"], []), (["a", "b"], [("b", "a")]), (["a", "b", "c"], [("b", "a"), ("c", "b")]),
            (["a", "b", "c"], [("c", "b")]),
        ])

    def test_by_words(self):
        for unsure in many_unsure():
            told = fillings(unsure)
            self.assertEqual(parts(told), parts(fillings_by_words(unsure)))
            self.assertEqual(parts(told), sorted(parts(told)))
            self.assertTrue(all(type(one) is Debate for one in told))
            self.assertTrue(all(is_filling(unsure, one) for one in told))

    def test_without_things(self):
        for debate in tiny_debates():
            self.assertEqual(fillings(unsure=Unsure(debate, [], [])), [debate])
            self.assertIs(is_filling(Unsure(debate, [], []), debate), True)

    def test_an_objection_whose_end_may_lack(self):
        unsure = Unsure(D, ["a", "b"], [("b", "a")])
        self.assertEqual(len(fillings(unsure)), 5)
        self.assertEqual(parts(fillings(unsure))[0], (["a", "b", "c"], [("b", "a"), ("c", "b")]))

    def test_at_the_limit(self):
        debate = drawn_debates(4, 8, 182)[3]
        names, pairs = debate.statements(), debate.objections()
        for many in (0, 3, 7):
            unsure = Unsure(debate, names[:many], pairs[:7 - many])
            told = fillings(unsure)
            self.assertEqual(parts(told), parts(fillings_by_words(unsure)))
            self.assertLessEqual(len(told), 128)
        self.assertEqual(len(told), 128)

    def test_new_each_time(self):
        told = fillings(U)
        told.clear()
        self.assertEqual(len(fillings(U)), 4)

    def test_is_filling(self):
        for unsure in drawn_unsure(20, 2, 3, 183):
            right = fillings_by_words(unsure)
            for debate in tiny_debates() + all_debates(["b"]) + all_debates(["a", "c"]):
                self.assertIs(is_filling(unsure, debate), debate in right)

    def test_any_objects(self):
        self.assertIs(is_filling(thing=D, unsure=U), True)
        for thing in any_objects() + [U, (["a", "b"], []), fillings(U), Debate(["a", "b", "c", "d"], [])]:
            self.assertIs(is_filling(U, thing), False)


class TestLearned(Case):
    def test_example(self):
        self.assertEqual(learned(U, "c", True), Unsure(D, [], [("b", "a")]))
        self.assertEqual(learned(U, "c", False), Unsure(Debate(["a", "b"], [("b", "a")]), [], [("b", "a")]))
        self.assertEqual(learned(there=True, thing=["b", "a"], unsure=U), Unsure(D, ["c"], []))
        self.assertEqual(learned(U, ("b", "a"), False),
                         Unsure(Debate(["a", "b", "c"], [("c", "b")]), ["c"], []))
        both = Unsure(D, ["a", "b", "c"], [("b", "a"), ("c", "b")])
        self.assertEqual(learned(both, ("b", "a"), True), Unsure(D, ["c"], [("c", "b")]))
        self.assertEqual(learned(both, "b", False), Unsure(Debate(["a", "c"], []), ["a", "c"], []))

    def test_fillings_are_just_those(self):
        for unsure in many_unsure():
            for thing in unsure.things():
                for there in (True, False):
                    told = learned(unsure, thing, there)
                    right = [one for one in fillings(unsure) if has(one, thing) == there]
                    self.assertEqual(parts(fillings(told)), parts(right))
                    self.assertNotIn(thing, told.things())

    def test_an_objection_to_itself(self):
        unsure = Unsure(Debate(["a"], [("a", "a")]), ["a"], [("a", "a")])
        self.assertEqual(learned(unsure, ("a", "a"), True), Unsure(Debate(["a"], [("a", "a")]), [], []))
        self.assertEqual(learned(unsure, ("a", "a"), False), Unsure(Debate(["a"], []), ["a"], []))
        self.assertEqual(learned(unsure, "a", False), Unsure(Debate([], []), [], []))

    def test_errors(self):
        for thing in any_objects() + ["b", "c0", ("c", "b"), ("a", "b"), ["c"], ("c",), "ba", ("b", "a", "a")]:
            self.refuses(NoThing, {"thing": thing}, learned, U, thing, 5)
        for thing in any_objects():
            if not isinstance(thing, bool):
                self.refuses(BadTruth, {"thing": thing}, learned, U, "c", thing)
                self.refuses(BadTruth, {"thing": thing}, learned, U, ("b", "a"), thing)
