"""Points 2, 3 and 7: debates."""

import unittest

from objections.debates import Debate, objected, objectors
from objections.errors import BadObjections, BadStatements, NoStatement
from tests.helper import any_objects, long_debate, long_names, not_lists, not_statements, small_debates


class TestDebate(unittest.TestCase):
    def test_lists_ascend(self):
        debate = Debate(["b", "c1", "a"], [("c1", "a"), ("a", "a"), ("a", "c1"), ("b", "a")])
        self.assertEqual(debate.statements(), ["a", "b", "c1"])
        self.assertEqual(debate.objections(), [("a", "a"), ("a", "c1"), ("b", "a"), ("c1", "a")])
        self.assertEqual(len(debate), 3)

    def test_by_names_of_parameters(self):
        debate = Debate(objections=[("a", "b")], statements=["a", "b"])
        self.assertEqual(debate, Debate(["a", "b"], [("a", "b")]))
        self.assertEqual(objectors(statement="b", debate=debate), ["a"])
        self.assertEqual(objected(statement="a", debate=debate), ["b"])

    def test_none_at_all(self):
        debate = Debate([], [])
        self.assertEqual((debate.statements(), debate.objections(), len(debate)), ([], [], 0))
        self.assertEqual(debate, Debate((), ()))

    def test_lists_for_tuples_and_tuples_for_lists(self):
        debate = Debate(("b", "a"), (["b", "a"], ("a", "b")))
        self.assertEqual(debate, Debate(["a", "b"], [("a", "b"), ("b", "a")]))
        self.assertEqual([type(pair) for pair in debate.objections()], [tuple, tuple])
        self.assertIs(type(debate.statements()), list)
        self.assertIs(type(debate.objections()), list)

    def test_told_lists_are_new(self):
        debate = Debate(["a", "b"], [("a", "b")])
        debate.statements().append("c")
        debate.objections().clear()
        objectors(debate, "b").append("c")
        objected(debate, "a").append("c")
        self.assertEqual(debate.statements(), ["a", "b"])
        self.assertEqual(debate.objections(), [("a", "b")])
        self.assertEqual(objectors(debate, "b"), ["a"])
        self.assertEqual(objected(debate, "a"), ["b"])

    def test_what_is_passed_is_copied_and_not_changed(self):
        statements = ["b", "a"]
        pair = ["b", "a"]
        objections = [pair, ("a", "a")]
        debate = Debate(statements, objections)
        self.assertEqual((statements, objections), (["b", "a"], [["b", "a"], ("a", "a")]))
        statements.append("c")
        pair[0] = "a"
        objections.clear()
        self.assertEqual(debate.statements(), ["a", "b"])
        self.assertEqual(debate.objections(), [("a", "a"), ("b", "a")])

    def test_equal_by_both_lists_and_to_nothing_else(self):
        debate = Debate(["a", "b"], [("a", "b")])
        self.assertTrue(debate == Debate(["b", "a"], [("a", "b")]))
        self.assertFalse(debate != Debate(["b", "a"], [("a", "b")]))
        self.assertFalse(debate == Debate(["a", "b"], []))
        self.assertFalse(debate == Debate(["a", "b", "c"], [("a", "b")]))
        for thing in any_objects():
            self.assertFalse(debate == thing)
            self.assertTrue(debate != thing)
        self.assertFalse(Debate([], []) == [])

    def test_what_is_a_name(self):
        names = ["a", "z", "a0", "z9z", "abcdefghijkl", "a12345678901"]
        self.assertEqual(Debate(names, []).statements(), sorted(names))
        odd = ["", "A", "aB", "0", "0a", "a b", "a_b", "a-", "abcdefghijklm", "\u00e4", "a\u0661", "a\n", "\u00b2"]
        for name in odd:
            with self.assertRaises(BadStatements) as caught:
                Debate(["a", "b", name], [])
            self.assertEqual(caught.exception.index, 2, name)

    def test_bad_statements(self):
        for thing in not_lists():
            with self.assertRaises(BadStatements) as caught:
                Debate(thing, [])
            self.assertEqual(caught.exception.index, 0)
        for thing in any_objects():
            if not isinstance(thing, str) or thing in ("", "A", "a"):
                with self.assertRaises(BadStatements) as caught:
                    Debate(["a", "b", thing, thing], [])
                self.assertEqual(caught.exception.index, 2)

    def test_the_first_bad_statement(self):
        with self.assertRaises(BadStatements) as caught:
            Debate(["a", "b", "b", "a", 1], [])
        self.assertEqual(caught.exception.index, 2)

    def test_bad_objections(self):
        for thing in not_lists():
            with self.assertRaises(BadObjections) as caught:
                Debate(["a"], thing)
            self.assertEqual(caught.exception.index, 0)
        odd = any_objects() + [
            ("a",), ("a", "b", "c"), ("a", "d"), ("d", "a"), "aa", ("a", None), (["a"], "b"), ("a", {}), {"a", "b"},
            {"a": "b", "b": "a"}, ("a", "a"), ["a", "a"],
        ]
        for thing in odd:
            with self.assertRaises(BadObjections) as caught:
                Debate(["a", "b", "c"], [("a", "a"), ("b", "a"), thing, thing])
            self.assertEqual(caught.exception.index, 2, thing)

    def test_statements_ahead_of_objections(self):
        with self.assertRaises(BadStatements):
            Debate([1], None)
        with self.assertRaises(BadStatements):
            Debate(None, None)

    def test_objectors_and_objected(self):
        for debate in small_debates():
            for name in debate.statements():
                pairs = debate.objections()
                self.assertEqual(objectors(debate, name), sorted(one for one, other in pairs if other == name))
                self.assertEqual(objected(debate, name), sorted(other for one, other in pairs if one == name))

    def test_no_statement_keeps_the_very_object(self):
        debate = Debate(["zz9", "b"], [])
        for ask in (objectors, objected):
            for thing in not_statements(debate):
                with self.assertRaises(NoStatement) as caught:
                    ask(debate, thing)
                self.assertIs(caught.exception.thing, thing)

    def test_forty_statements(self):
        names = long_names()
        debate = long_debate()
        self.assertEqual(debate.statements(), names)
        self.assertEqual(objectors(debate, "n39"), ["n38"])
        full = Debate(names, [(one, other) for one in names for other in names])
        self.assertEqual(objected(full, "n00"), names)
        self.assertEqual(len(full.objections()), 1600)
