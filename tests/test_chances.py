"""Points 77 and 78: chances, and fewest questions on the average."""

import itertools
from fractions import Fraction

from objections.chances import chances_told, fewest_on_average
from objections.debates import Debate
from objections.errors import BadChances, NoString
from objections.questions import judge_by, question_tree
from objections.unsure import Unsure, fillings
from tests.helper import Case, any_objects, ascending, drawn_debates, drawn_unsure, fillings_by_words, not_lists

D = Debate(["a", "b", "c"], [("b", "a"), ("c", "b")])
U = Unsure(D, ["c"], [("b", "a")])
HALVES = {"c": (1, 2), ("b", "a"): (1, 2)}
JUDGE = judge_by("least", "a", "some")


def has(filling, thing):
    return thing in filling.statements() + filling.objections()


def by_size(debate):
    return str(len(debate.objections()))


def by_all(debate):
    return repr((debate.statements(), debate.objections()))


def chances_by_words(unsure, chances):
    """How likely each filling is: statements first, then each objection both of whose ends are there."""
    found = []
    for filling in fillings_by_words(unsure):
        chance = Fraction(1)
        for thing in unsure.things():
            share = Fraction(*chances[thing])
            if isinstance(thing, str) or all(end in filling.statements() for end in thing):
                chance *= share if has(filling, thing) else 1 - share
        found.append((filling, chance))
    return found


def mean_by_words(unsure, cases):
    """The least mean number of questions for triples of a filling, its verdict and its chance."""
    if len({verdict for _, verdict, _ in cases}) < 2:
        return Fraction(0)
    best = []
    for thing in unsure.things():
        sides = [[case for case in cases if has(case[0], thing) == there] for there in (True, False)]
        if all(sides):
            best.append(sum(mean_by_words(unsure, side) for side in sides))
    return sum(chance for _, _, chance in cases) + min(best)


def as_pair(fraction):
    return (fraction.numerator, fraction.denominator)


def drawn_chances(unsure, turn):
    rows = [(0, 1), (1, 1), (1, 2), (2, 6), (19, 20), (0, 7), (5, 5), (3, 19), (1, 17)]
    return {thing: rows[(turn + 4 * at) % 9] for at, thing in enumerate(unsure.things()[::-1])}


def many_unsure():
    return drawn_unsure(25, 3, 4, 220) + drawn_unsure(8, 4, 5, 221) + [Unsure(Debate([], []), [], [])]


class TestChances(Case):
    def test_example(self):
        self.assertEqual(chances_told(U, HALVES, JUDGE), {"no": (1, 4), "yes": (3, 4)})
        self.assertEqual(fewest_on_average(U, HALVES, JUDGE), (3, 2))
        turned = {("b", "a"): [2, 4], "c": [10, 20]}
        self.assertEqual(chances_told(judge=JUDGE, chances=turned, unsure=U), {"no": (1, 4), "yes": (3, 4)})
        self.assertEqual(fewest_on_average(judge=JUDGE, chances=turned, unsure=U), (3, 2))
        self.assertEqual(turned, {("b", "a"): [2, 4], "c": [10, 20]})

    def test_by_words(self):
        for turn, unsure in enumerate(many_unsure()):
            for step, judge in enumerate((by_size, by_all, judge_by("greatest", "a", "some"), lambda _: "x")):
                chances = drawn_chances(unsure, turn + step)
                cases = [(filling, judge(filling), chance) for filling, chance in chances_by_words(unsure, chances)]
                self.assertEqual(sum(chance for _, _, chance in cases), 1)
                sums = {}
                for _, verdict, chance in cases:
                    sums[verdict] = sums.get(verdict, 0) + chance
                told = chances_told(unsure, chances, judge)
                self.assertEqual(told, {verdict: as_pair(share) for verdict, share in sums.items() if share})
                self.assertTrue(ascending(told))
                mean = fewest_on_average(unsure, chances, judge)
                self.assertEqual(mean, as_pair(mean_by_words(unsure, cases)))
                self.assertEqual({type(part) for part in mean}, {int})

    def test_trees_do_no_better(self):
        for turn, unsure in enumerate(many_unsure()):
            chances = drawn_chances(unsure, turn)
            mean = Fraction(*fewest_on_average(unsure, chances, by_size))
            total = Fraction(0)
            for filling, chance in chances_by_words(unsure, chances):
                tree, asked = question_tree(unsure, by_size), 0
                while tree[0] == "ask":
                    tree, asked = tree[2 if has(filling, tree[1]) else 3], asked + 1
                total += chance * asked
            self.assertLessEqual(mean, total)

    def test_sure_things(self):
        never, always = {"c": (0, 3), ("b", "a"): (0, 1)}, {"c": (4, 4), ("b", "a"): (1, 1)}
        self.assertEqual(chances_told(U, never, JUDGE), {"yes": (1, 1)})
        self.assertEqual(chances_told(U, always, by_size), {"2": (1, 1)})
        # Right without a chance, too: c lacks surely, and yet it is asked whether it is there.
        self.assertEqual(fewest_on_average(U, never, JUDGE), (1, 1))
        self.assertEqual(fewest_on_average(U, always, JUDGE), (1, 1))
        self.assertEqual(fewest_on_average(U, {"c": (0, 1), ("b", "a"): (1, 1)}, JUDGE), (2, 1))

    def test_an_objection_needs_its_ends(self):
        unsure = Unsure(D, ["b"], [("b", "a")])
        told = chances_told(unsure, {"b": (1, 2), ("b", "a"): (1, 3)}, by_size)
        self.assertEqual(told, {"0": (1, 2), "1": (1, 3), "2": (1, 6)})

    def test_nothing(self):
        unsure = Unsure(D, [], [])
        self.assertEqual(chances_told(unsure, {}, JUDGE), {"yes": (1, 1)})
        self.assertEqual(fewest_on_average(unsure, {}, JUDGE), (0, 1))

    def test_at_the_limit(self):
        debate = drawn_debates(3, 8, 222)[2]
        for many in (0, 3, 6):
            unsure = Unsure(debate, debate.statements()[:many], debate.objections()[:6 - many])
            chances = {thing: (3 + at, 20 - at) for at, thing in enumerate(unsure.things())}
            told = chances_told(unsure, chances, by_all)
            self.assertEqual(sum(Fraction(*share) for share in told.values()), 1)
            self.assertEqual(len(told), len(fillings(unsure)))
            top, bottom = fewest_on_average(unsure, chances, by_all)
            self.assertLessEqual(top, 6 * bottom)
        self.assertEqual((top, bottom) == (6, 1), len(fillings(unsure)) == 64)

    def test_new_each_time(self):
        chances_told(U, HALVES, JUDGE).clear()
        self.assertEqual(len(chances_told(U, HALVES, JUDGE)), 2)

    def test_each_filling_is_asked_once(self):
        for call in (chances_told, fewest_on_average):
            asked = []
            call(U, HALVES, lambda debate: asked.append(debate) or "x")
            self.assertEqual(asked, fillings(U))

    def test_errors(self):
        odd = any_objects() + not_lists() + [
            {"c": (1, 2)}, HALVES | {"a": (1, 2)}, {"c": (1, 2), ("c", "b"): (1, 2)}, {"c": (1, 2), "b": (1, 2)},
            list(HALVES.items()), {"c": (1, 2), "ba": (1, 2)},
        ]
        for share in any_objects() + [(1, 0), (0, 0), (2, 1), (-1, 2), (-1, -2), (1,), (1, 2, 3), (True, 2), (1, True),
                                      ("1", "2"), (0, None), (1, -1), ((1,), 2)]:
            odd += [HALVES | {"c": share}, HALVES | {("b", "a"): share}]
        for call in (chances_told, fewest_on_average):
            for thing in odd:
                self.refuses(BadChances, {"thing": thing}, call, U, thing, lambda _: None)
            for thing in [thing for thing in any_objects() if not isinstance(thing, str)]:
                self.refuses(NoString, {"thing": thing}, call, U, HALVES, lambda _: thing)

    def test_all_trees_of_the_example(self):
        """No right tree has a lesser mean, by going through all that ask each thing once at most."""
        verdicts = ["no", "yes"]

        def trees(things):
            yield from [("tell", verdict) for verdict in verdicts]
            for thing in things:
                rest = [other for other in things if other != thing]
                for pair in itertools.product(list(trees(rest)), repeat=2):
                    yield ("ask", thing) + pair

        for turn in range(9):
            chances = drawn_chances(U, turn)
            means = []
            for tree in trees(U.things()):
                mean, right = Fraction(0), True
                for filling, chance in chances_by_words(U, chances):
                    place, asked = tree, 0
                    while place[0] == "ask":
                        place, asked = place[2 if has(filling, place[1]) else 3], asked + 1
                    right = right and place[1] == JUDGE(filling)
                    mean += chance * asked
                if right:
                    means.append(mean)
            self.assertEqual(fewest_on_average(U, chances, JUDGE), as_pair(min(means)))
