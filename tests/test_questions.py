"""Points 74, 75, 76 and 78: judges, fewest questions, and askers that fail."""

import itertools

from objections.debates import Debate
from objections.errors import BadHow, BadNumber, BadWay, IsEnough, NoString
from objections.labels import stands
from objections.questions import (
    break_asker, fewest_questions, is_question_tree, judge_by, judged, question_tree,
)
from objections.unsure import Unsure, fillings
from tests.helper import (
    HOWS, WAYS, Case, any_objects, drawn_debates, drawn_unsure, fillings_by_words, not_numbers, not_words,
    stands_by_words, tiny_debates,
)

D = Debate(["a", "b", "c"], [("b", "a"), ("c", "b")])
U = Unsure(D, ["c"], [("b", "a")])
TREE = ("ask", "c", ("tell", "yes"), ("ask", ("b", "a"), ("tell", "no"), ("tell", "yes")))


def judge(debate):
    """The judge of the example."""
    return "yes" if stands(debate, "least", "a", "some") else "no"


def has(filling, thing):
    return thing in filling.statements() + filling.objections()


def by_size(debate):
    return str(len(debate.objections()))


def by_parity(debate):
    return "odd" if len(debate.objections()) + len(debate) & 1 else "even"


def all_alike(_):
    return ""


def some_judges(unsure):
    found = [by_size, by_parity, all_alike]
    for name in unsure.full().statements()[:2]:
        found += [judge_by("least", name, "some"), judge_by("greatest", name, "all")]
    return found


def depth_by_words(unsure, cases):
    """The least depth of right trees for pairs of a filling and a verdict, by going through all first questions."""
    if len({verdict for _, verdict in cases}) < 2:
        return 0
    best = []
    for thing in unsure.things():
        sides = [[case for case in cases if has(case[0], thing) == there] for there in (True, False)]
        if all(sides):
            best.append(1 + max(depth_by_words(unsure, side) for side in sides))
    return min(best)


def walk(tree, filling):
    """What a tree tells of a filling, and how many questions it asks."""
    many = 0
    while tree[0] == "ask":
        many += 1
        tree = tree[2] if has(filling, tuple(tree[1]) if isinstance(tree[1], list) else tree[1]) else tree[3]
    return tree[1], many


def is_tree(unsure, tree):
    if tree[0] == "tell":
        return len(tree) == 2 and isinstance(tree[1], str)
    return tree[0] == "ask" and len(tree) == 4 and tree[1] in unsure.things() and all(
        is_tree(unsure, part) for part in tree[2:])


def many_unsure():
    return drawn_unsure(25, 3, 4, 210) + drawn_unsure(8, 4, 5, 211) + [Unsure(Debate([], []), [], [])]


class Counted:
    """A judge that remembers what it was asked."""

    def __init__(self, answer):
        self.answer = answer
        self.asked = []

    def __call__(self, debate):
        self.asked.append(debate)
        return self.answer(debate)

    def as_function(self):
        return lambda debate: self(debate)


class TestJudges(Case):
    def test_judge_by(self):
        for turn, debate in enumerate(tiny_debates()):
            for way, how in itertools.product(WAYS, HOWS):
                self.assertEqual(judge_by(way, "b", how)(debate), "gone" if "b" not in debate.statements() else
                                 "yes" if stands_by_words(debate, way, "b", how) else "no", turn)
        self.assertEqual(judge_by(how="all", statement="zz", way="whole")(D), "gone")
        for thing in any_objects():
            if thing != "a":
                self.assertEqual(judge_by("whole", thing, "all")(D), "gone")
        for thing in not_words(WAYS):
            self.refuses(BadWay, {"thing": thing}, judge_by, thing, "a", 5)
        for thing in not_words(HOWS):
            self.refuses(BadHow, {"thing": thing}, judge_by, "whole", None, thing)

    def test_judged(self):
        for unsure in many_unsure():
            for some in some_judges(unsure):
                self.assertEqual(judged(unsure, some), [some(filling) for filling in fillings_by_words(unsure)])
        told = judged(judge=judge, unsure=U)
        self.assertEqual(told, ["yes", "no", "yes", "yes"])
        told.clear()
        self.assertEqual(len(judged(U, judge)), 4)

    def test_each_filling_is_asked_once_in_their_order(self):
        calls = [
            judged, fewest_questions, question_tree, lambda unsure, some: is_question_tree(unsure, some, 2, TREE),
            lambda unsure, some: break_asker(unsure, some, lambda _: None, 1),
        ]
        for call in calls:
            counted = Counted(judge)
            call(U, counted.as_function())
            self.assertEqual(counted.asked, fillings(U))
            self.assertTrue(all(type(one) is Debate for one in counted.asked))
            again = Counted(judge)
            call(U, again.as_function())
            self.assertFalse(any(one is two for one in counted.asked for two in again.asked if len(one) == 2))

    def test_no_string(self):
        calls = [
            judged, fewest_questions, question_tree, lambda unsure, some: is_question_tree(unsure, some, None, None),
            lambda unsure, some: break_asker(unsure, some, None, None),
        ]
        for call in calls:
            for thing in [thing for thing in any_objects() if not isinstance(thing, str)]:
                self.refuses(NoString, {"thing": thing}, call, U, lambda _: thing)
                odd = [thing, "", None]
                self.refuses(NoString, {"thing": thing}, call, U, lambda debate: odd[0 if len(debate) > 2 else 1])
            counted = Counted(lambda debate: 7 if len(debate) == 3 else "x")
            self.refuses(NoString, {"thing": 7}, call, U, counted.as_function())
            self.assertEqual(len(counted.asked), 3)

    def test_what_a_judge_raises_goes_through(self):
        def odd(_):
            raise KeyError("odd")

        for call in (judged, fewest_questions, question_tree, lambda *given: is_question_tree(*given, 1, 1),
                     lambda *given: break_asker(*given, 1, 1)):
            with self.assertRaises(KeyError):
                call(U, odd)


class TestTrees(Case):
    def test_example(self):
        self.assertEqual(fewest_questions(U, judge_by("least", "a", "some")), 2)
        self.assertEqual(fewest_questions(judge=judge, unsure=U), 2)
        self.assertIs(is_question_tree(thing=TREE, many=2, judge=judge, unsure=U), True)
        told = question_tree(judge=judge, unsure=U)
        self.assertIs(is_question_tree(U, judge, 2, told), True)

    def test_by_words(self):
        for unsure in many_unsure():
            for some in some_judges(unsure):
                cases = [(filling, some(filling)) for filling in fillings_by_words(unsure)]
                depth = depth_by_words(unsure, cases)
                self.assertEqual(fewest_questions(unsure, some), depth)
                tree = question_tree(unsure, some)
                self.assertTrue(is_tree(unsure, tree))
                self.assertEqual([walk(tree, filling)[0] for filling, _ in cases], [word for _, word in cases])
                self.assertEqual(max(walk(tree, filling)[1] for filling, _ in cases), depth)
                self.assertEqual(question_tree(unsure, some), tree)
                for many in range(5):
                    self.assertIs(is_question_tree(unsure, some, many, tree), many >= depth)

    def test_one_string_of_all(self):
        for unsure in many_unsure():
            self.assertEqual(fewest_questions(unsure, all_alike), 0)
            self.assertEqual(question_tree(unsure, all_alike), ("tell", ""))
            self.assertIs(is_question_tree(unsure, all_alike, 0, ["tell", ""]), True)
            self.assertIs(is_question_tree(unsure, all_alike, 0, ["tell", "x"]), False)

    def test_all_trees_of_two_questions(self):
        """No tree of less depth is right, by going through all of depth one, and some of depth two."""
        leaves = [("tell", "yes"), ("tell", "no")]
        ones = leaves + [("ask", thing) + pair for thing in U.things() for pair in itertools.product(leaves, repeat=2)]
        twos = [("ask", thing) + pair for thing in U.things() for pair in itertools.product(ones, repeat=2)]
        right = 0
        for tree in ones + twos:
            told = [walk(tree, filling) for filling in fillings(U)]
            good = [word for word, _ in told] == judged(U, judge)
            for many in range(4):
                enough = max(asked for _, asked in told) <= many
                self.assertIs(is_question_tree(U, judge, many, tree), good and enough)
            self.assertFalse(good and tree in ones)
            right += good
        self.assertGreater(right, 0)

    def test_what_none_comes_to(self):
        # Behind an answer that no filling gives, any tree stands, however deep; and what is asked there counts not.
        deep = ("tell", "x")
        for _ in range(20):
            deep = ("ask", ["b", "a"], deep, ("tell", ""))
        tree = ["ask", "c", ["ask", "c", ["tell", "yes"], deep], ["ask", ["b", "a"], ["tell", "no"], ["tell", "yes"]]]
        self.assertIs(is_question_tree(U, judge, 2, tree), True)
        self.assertIs(is_question_tree(U, judge, 1, tree), False)
        odd = ["ask", "c", ["ask", "c", ["tell", "yes"], ["tell", 5]], tree[3]]
        self.assertIs(is_question_tree(U, judge, 2, odd), False)
        lone = Unsure(Debate(["a", "b"], [("a", "b")]), ["a"], [("a", "b")])
        # Without its end the objection is not there: this answer none comes to.
        tree = ("ask", "a", ("tell", "1"), ("ask", ("a", "b"), ("tell", "odd"), ("tell", "0")))
        self.assertIs(is_question_tree(lone, lambda debate: str(len(debate) - 1), 2, tree), True)

    def test_any_objects(self):
        odd = any_objects() + [
            ("tell",), ("tell", "yes", "no"), ("ask", "c"), ("ask", "c", ("tell", "yes")), ("told", "yes"),
            ("ask", "b", TREE[2], TREE[3]), ("ask", ("c", "b"), TREE[2], TREE[3]), TREE + (TREE,), ("ask",) * 4,
            ("tell", "c", TREE[2], TREE[3]), (["ask"], "c", TREE[2], TREE[3]), ("ask", ["c"], TREE[2], TREE[3]),
            ("ask", "c", None, TREE[3]), ("ask", "c", TREE[2], None), ("ask", "c", TREE[2], ("tell", None)),
            {"ask": "c"}, ("ask", "c", "yes", TREE[3]), ("tell", ["yes"]),
        ]
        for thing in odd:
            self.assertIs(is_question_tree(U, judge, 9, thing), False)
        self.assertIs(is_question_tree(U, judge, 10 ** 8, TREE), True)

    def test_bad_numbers(self):
        for thing in not_numbers():
            self.refuses(BadNumber, {"thing": thing}, is_question_tree, U, judge, thing, None)
            self.refuses(BadNumber, {"thing": thing}, break_asker, U, judge, None, thing)
        self.assertIs(is_question_tree(U, judge, 0, TREE), False)

    def test_at_the_limit(self):
        debate = drawn_debates(3, 8, 212)[2]
        for many in (0, 3, 6):
            unsure = Unsure(debate, debate.statements()[:many], debate.objections()[:6 - many])
            for some in (by_size, by_parity, judge_by("greatest", debate.statements()[-1], "some")):
                depth = fewest_questions(unsure, some)
                tree = question_tree(unsure, some)
                self.assertIs(is_question_tree(unsure, some, depth, tree), True)
                self.assertIs(depth == 0 or not is_question_tree(unsure, some, depth - 1, tree), True)
        self.assertEqual(fewest_questions(Unsure(debate, [], debate.objections()[:6]), by_parity), 6)


def asker_by(tree):
    """The asker that goes by a tree."""
    def asker(pairs):
        place = tree
        for _, answer in pairs:
            place = place[2] if answer else place[3]
        return place[:2]

    return asker


class TestBreakAsker(Case):
    def check(self, unsure, some, asker, many, told):
        """Whether what is told is what the words of point 76 say, done step by step."""
        pairs, kind, filling = told
        found = fillings_by_words(unsure)
        left = [(one, some(one)) for one in found]
        so_far = []
        while True:
            step = asker(tuple(so_far))
            right = None
            if not (isinstance(step, (list, tuple)) and len(step) == 2 and (
                    step[0] == "tell" and isinstance(step[1], str) or step[0] == "ask" and step[1] in unsure.things())):
                right = ("odd", left[0][0])
            elif step[0] == "ask" and len(so_far) == many:
                right = ("much", left[0][0])
            elif step[0] == "tell":
                wrong = [one for one, word in left if word != step[1]]
                right = ("wrong", wrong[0])
            if right is not None:
                break
            sides = [[case for case in left if has(case[0], step[1]) == there] for there in (True, False)]
            needs = [depth_by_words(unsure, side) if side else -1 for side in sides]
            so_far.append((step[1], needs[0] >= needs[1]))
            left = sides[0 if needs[0] >= needs[1] else 1]
        self.assertEqual((pairs, kind, filling), (so_far,) + right)
        self.assertIs(type(pairs), list)
        self.assertEqual({type(pair) for pair in pairs} | {tuple}, {tuple})

    def test_trees_that_are_too_short(self):
        many = 0
        for unsure in many_unsure():
            for some in some_judges(unsure):
                depth = fewest_questions(unsure, some)
                tree = question_tree(unsure, some)
                for less in range(depth):
                    askers = [asker_by(tree), lambda _: ("tell", "yes"), lambda _: None,
                              lambda pairs: ("ask", unsure.things()[-1]), lambda pairs: ("tell", str(len(pairs))),
                              lambda pairs: ("ask", unsure.things()[len(pairs) % len(unsure.things())])]
                    for asker in askers:
                        told = break_asker(unsure, some, asker, less)
                        self.check(unsure, some, asker, less, told)
                        many += 1
                self.refuses(IsEnough, {}, break_asker, unsure, some, None, depth)
                self.refuses(IsEnough, {}, break_asker, unsure, some, None, depth + 3)
        self.assertGreater(many, 300)

    def test_example(self):
        told = break_asker(U, judge, lambda pairs: ("ask", "c"), 1)
        self.assertEqual(told, ([("c", False)], "much", Debate(["a", "b"], [])))
        told = break_asker(many=0, asker=lambda pairs: ["tell", "yes"], judge=judge, unsure=U)
        self.assertEqual(told, ([], "wrong", Debate(["a", "b"], [("b", "a")])))
        told = break_asker(U, judge, lambda pairs: ["ask", ["b", "a"]] if not pairs else ("tell", "no"), 1)
        self.assertEqual(told, ([(("b", "a"), True)], "wrong", D))
        self.assertEqual(break_asker(U, judge, lambda pairs: 5, 1), ([], "odd", Debate(["a", "b"], [])))

    def test_odd_ones(self):
        odd = any_objects() + [
            ("ask", "b"), ("ask", ("c", "b")), ("ask",), ("tell",), ("tell", 5), ("ask", "c", "c"), ["tell", ["yes"]],
            ("asks", "c"), (["ask"], "c"), ("ask", ["c"]), ("tell", None), "ask", ("ask", None), TREE,
        ]
        for thing in odd:
            told = break_asker(U, judge, lambda pairs: thing if pairs else ("ask", "c"), 1)
            self.assertEqual(told, ([("c", False)], "odd", Debate(["a", "b"], [])))

    def test_what_the_asker_is_handed(self):
        handed = []

        def asker(pairs):
            handed.append(pairs)
            return ["ask", ["b", "a"]] if len(pairs) == 1 else ["ask", "c"]

        unsure = Unsure(D, ["c"], [("b", "a"), ("c", "b")])
        told = break_asker(unsure, lambda debate: repr((len(debate), debate.objections())), asker, 2)
        self.assertEqual([len(pairs) for pairs in handed], [0, 1, 2])
        for pairs in handed:
            self.assertIs(type(pairs), tuple)
            self.assertEqual([type(pair) for pair in pairs], [tuple] * len(pairs))
            self.assertEqual([type(answer) for _, answer in pairs], [bool] * len(pairs))
        self.assertEqual(handed[2][1][0], ("b", "a"))
        self.assertEqual(told[:2], (list(handed[2]), "much"))

    def test_what_an_asker_raises_goes_through(self):
        def odd(_):
            raise IsEnough()

        self.refuses(IsEnough, {}, break_asker, U, judge, odd, 0)

        def other(_):
            raise KeyError("odd")

        with self.assertRaises(KeyError):
            break_asker(U, judge, other, 1)

    def test_order_of_errors(self):
        self.refuses(NoString, {"thing": 5}, break_asker, U, lambda _: 5, None, None)
        self.refuses(BadNumber, {"thing": True}, break_asker, U, judge, None, True)

    def test_at_the_limit(self):
        debate = drawn_debates(3, 8, 213)[2]
        unsure = Unsure(debate, [], debate.objections()[:6])
        things = unsure.things()
        told = break_asker(unsure, by_parity, lambda pairs: ("ask", things[len(pairs)]) if len(pairs) < 6 else None, 5)
        self.assertEqual((len(told[0]), told[1]), (5, "much"))
