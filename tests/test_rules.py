"""Points 79, 80 and 88: rules with unless, and what follows."""

from objections.errors import BadAbsent, BadClaims, BadRules
from objections.rules import Rules, follows, with_rules
from tests.helper import Case, any_objects, not_lists, subsets
from tests.rulewords import EIGHT, K, K_TRIPLES, follows_by_words


def thirty_rules():
    """Rules between eight claims, some with long bodies, some that hold one behind another."""
    rules = [(EIGHT[at + 1], [EIGHT[at]], []) for at in range(7)]
    for at in range(23):
        body = [EIGHT[(at + turn) % 8] for turn in range(at % 4)]
        unless = [EIGHT[(3 * at + turn) % 8] for turn in range(at % 3)]
        rules.append((EIGHT[(5 * at) % 8], body, unless))
    return rules


class TestRules(Case):
    def test_what_is_kept(self):
        known = Rules(["c", "a", "b"], [("c", ["b", "a"], []), ("a", [], ["c", "a"]), ("c", ["b", "a"], [])])
        self.assertEqual(known.claims(), ["a", "b", "c"])
        self.assertEqual(known.triples(), [("c", ("a", "b"), ()), ("a", (), ("a", "c")), ("c", ("a", "b"), ())])
        self.assertEqual({type(row) for row in known.triples()}, {tuple})
        self.assertEqual({type(part) for row in known.triples() for part in row[1:]}, {tuple})

    def test_by_names_and_lists_for_tuples(self):
        known = Rules(rules=(["a", (), ("b",)], ("b", [], ["a"]), ["c", ["a"], ()], ["c", ("b",), []]),
                      claims=("c", "b", "a"))
        self.assertTrue(known == K)
        self.assertFalse(known != K)

    def test_nothing(self):
        none = Rules([], [])
        self.assertEqual((none.claims(), none.triples(), follows(none, [])), ([], [], []))
        self.assertEqual(follows(Rules(["a"], []), ["a"]), [])
        self.assertTrue(none == Rules((), ()))

    def test_equal_by_both_lists_and_to_nothing_else(self):
        for other in (
            Rules(["a", "b", "c", "d"], K_TRIPLES), Rules(["a", "b", "c"], K_TRIPLES[::-1]),
            Rules(["a", "b", "c"], K_TRIPLES[:3]), Rules(["a", "b", "c"], K_TRIPLES + K_TRIPLES[3:]),
            Rules(["a", "b", "c"], K_TRIPLES[:3] + [("c", [], ["b"])]),
        ):
            self.assertFalse(K == other)
            self.assertTrue(K != other)
        for thing in any_objects() + [K.triples(), K.claims()]:
            self.assertFalse(K == thing)
            self.assertFalse(thing == K)

    def test_copied_and_new(self):
        claims, body, unless = ["b", "a"], ["b", "a"], ["b", "a"]
        rule = ["a", body, unless]
        rules = [rule]
        known = Rules(claims, rules)
        self.assertEqual((claims, rules), (["b", "a"], [["a", ["b", "a"], ["b", "a"]]]))
        for row in (claims, body, unless, rule, rules, known.claims(), known.triples()):
            row.clear()
        self.assertEqual((known.claims(), known.triples()), (["a", "b"], [("a", ("a", "b"), ("a", "b"))]))

    def test_errors(self):
        self.refuses_no_lists(BadClaims, lambda thing: Rules(thing, 5))
        for thing in any_objects() + ["b", "B", ["c"]]:
            if thing not in ("a", "ab", "zz9"):
                self.refuses(BadClaims, {"index": 1}, Rules, ["b", thing, thing], 5)
        self.refuses(BadClaims, {"index": 2}, Rules, ["b", "a", "a"], 5)
        odd = any_objects() + [
            ("a", []), ("a", [], [], []), ("x", [], []), ("a", ["x"], []), ("a", [], ["x"]), ("a", ["b", "b"], []),
            ("a", [], ["b", "b"]), ("a", None, []), ("a", [], None), ("a", "b", []), ("a", [], "b"), (["a"], [], []),
            (None, [], []), ("a", [None], []), ("a", [], [["b"]]), ("a", {"b": 1}, []), {"a": [], "b": [], "c": []},
        ]
        calls = [lambda rules: Rules(["a", "b", "c"], rules), lambda rules: with_rules(K, rules)]
        for call in calls:
            self.refuses_no_lists(BadRules, call)
            for thing in odd:
                self.refuses(BadRules, {"index": 2}, call, [("a", [], []), ("a", [], []), thing, None])

    def test_with_rules(self):
        told = with_rules(K, [("c", ["b", "a"], ["c"]), K_TRIPLES[0]])
        self.assertEqual(told.claims(), K.claims())
        self.assertEqual(told.triples(), K.triples() + [("c", ("a", "b"), ("c",)), ("a", (), ("b",))])
        self.assertEqual(with_rules(rules=(), known=K), K)
        self.assertEqual(len(K.triples()), 4)


class TestFollows(Case):
    def test_plain_ones(self):
        self.assertEqual(follows(K, []), [])
        self.assertEqual(follows(K, ["b"]), ["a", "c"])
        self.assertEqual(follows(absent=("b", "a"), known=K), ["a", "b", "c"])
        self.assertEqual(follows(K, ["c"]), [])

    def test_a_head_in_its_own_body_or_unless(self):
        known = Rules(["a", "b"], [("a", ["a"], []), ("b", [], ["b"])])
        self.assertEqual(follows(known, []), [])
        self.assertEqual(follows(known, ["b"]), ["b"])
        self.assertEqual(follows(known, ["a", "b"]), ["b"])

    def test_one_behind_another(self):
        known = Rules(EIGHT, [(EIGHT[at + 1], [EIGHT[at]], []) for at in range(6, -1, -1)] + [("c0", [], [])])
        self.assertEqual(follows(known, []), EIGHT)

    def test_by_words(self):
        known = Rules(EIGHT, thirty_rules())
        self.assertEqual(len(known.triples()), 30)
        for share in (known, Rules(EIGHT, thirty_rules()[7:]), Rules(EIGHT, thirty_rules()[::3]), K):
            for absent in subsets(share.claims()):
                told = follows(share, absent[::-1])
                self.assertEqual(told, follows_by_words(share, absent))
                self.assertIs(type(told), list)

    def test_new_each_time(self):
        absent = ["b"]
        follows(K, absent).clear()
        self.assertEqual((follows(K, absent), absent), (["a", "c"], ["b"]))

    def test_bad_absent(self):
        for thing in not_lists():
            self.refuses(BadAbsent, {"index": 0}, follows, K, thing)
        for thing in any_objects() + ["b", "d", ["c"]]:
            if thing != "a":
                self.refuses(BadAbsent, {"index": 1}, follows, K, ["b", thing, thing])
