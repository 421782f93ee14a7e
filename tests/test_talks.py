"""Points 6, 17, 18, 19, 20 and 23: talks."""

import unittest

from objections.debates import Debate
from objections.doubts import greatest_doubt, is_doubt
from objections.errors import BadTalker, HasDoubt, HasRank, NoStatement
from objections.ranking import rank_of
from objections.talks import (
    beat_defender, beat_opposer, best_talk, least_talk, least_talk_length, winning_defender, winning_opposer,
)
from tests.helper import (
    all_debates, any_objects, drawn_debates, ignored, long_debate, long_names, met, not_functions, not_statements,
    small_debates, tiny_debates,
)

EXAMPLE = Debate(["a", "b", "c", "d", "e"], [("a", "b"), ("b", "c"), ("d", "e"), ("e", "d")])


def teller(*told):
    """A talker that tells these things one behind another, by how much was said."""
    return lambda said: told[(len(said) - 1) // 2]


class TestLeastTalk(unittest.TestCase):
    def test_who_says_nothing_loses(self):
        self.assertEqual(least_talk(EXAMPLE, "a", teller(), teller(None)), (["a"], "defender", "nothing"))
        self.assertEqual(least_talk(EXAMPLE, "c", teller(None), teller("b")), (["c", "b"], "opposer", "nothing"))
        told = least_talk(EXAMPLE, "c", teller("a"), teller("b", None))
        self.assertEqual(told, (["c", "b", "a"], "defender", "nothing"))
        self.assertIs(type(told), tuple)
        self.assertIs(type(told[0]), list)

    def test_who_says_what_is_wrong_loses(self):
        for thing in any_objects() + ["b", "c", "d", ["b"]]:
            if thing is not None:
                self.assertEqual(least_talk(EXAMPLE, "a", ignored, teller(thing)), (["a"], "defender", "wrong"))
                if thing != "a":
                    told = least_talk(EXAMPLE, "c", teller(thing), teller("b"))
                    self.assertEqual(told, (["c", "b"], "opposer", "wrong"))

    def test_again(self):
        self.assertEqual(least_talk(EXAMPLE, "d", teller("d"), teller("e")), (["d", "e"], "opposer", "again"))
        loop = Debate(["a"], [("a", "a")])
        self.assertEqual(least_talk(loop, "a", teller("a"), teller("a")), (["a", "a"], "opposer", "again"))

    def test_again_only_what_would_be_right_else(self):
        debate = Debate(["a", "b", "c"], [("b", "a"), ("c", "b")])
        self.assertEqual(least_talk(debate, "a", teller("a"), teller("b")), (["a", "b"], "opposer", "wrong"))

    def test_a_defender_may_say_what_the_opposer_has_said(self):
        ring = Debate(["a", "b", "c"], [("c", "a"), ("b", "c"), ("a", "b")])
        told = least_talk(ring, "a", teller("b", "c", "a"), teller("c", "a", "b"))
        self.assertEqual(told, (["a", "c", "b", "a", "c", "b"], "opposer", "again"))
        told = least_talk(ring, "a", teller("b", "c", None), teller("c", "a", "b"))
        self.assertEqual(told, (["a", "c", "b", "a", "c", "b"], "opposer", "nothing"))
        told = least_talk(ring, "a", teller("b", "c"), teller("c", "a", None))
        self.assertEqual(told, (["a", "c", "b", "a", "c"], "defender", "nothing"))

    def test_an_opposer_may_say_a_thing_again(self):
        debate = Debate(["a", "b", "c"], [("b", "a"), ("c", "b"), ("b", "c"), ("a", "b")])
        told = least_talk(debate, "a", teller("c", "a"), teller("b", "b"))
        self.assertEqual(told, (["a", "b", "c", "b"], "opposer", "again"))
        told = least_talk(debate, "a", teller("c", "c"), teller("b", "b"))
        self.assertEqual(told, (["a", "b", "c", "b"], "opposer", "again"))

    def test_what_talkers_are_handed(self):
        heard = []

        def defender(said):
            heard.append(("defender", said))
            return "a"

        def opposer(said):
            heard.append(("opposer", said))
            return {1: "b", 3: None}[len(said)]

        least_talk(debate=EXAMPLE, statement="c", opposer=opposer, defender=defender)
        rows = [("opposer", ("c",)), ("defender", ("c", "b")), ("opposer", ("c", "b", "a"))]
        self.assertEqual(heard, rows)
        self.assertEqual([type(said) for _, said in heard], [tuple] * 3)

    def test_what_they_raise_comes_out(self):
        for error in (KeyError("x"), ValueError(), StopIteration(), NoStatement(3)):
            def broken(said, error=error):
                raise error
            for ask in (lambda: least_talk(EXAMPLE, "c", broken, teller("b")),
                        lambda: least_talk(EXAMPLE, "c", broken, broken),
                        lambda: beat_opposer(EXAMPLE, "c", broken), lambda: beat_defender(EXAMPLE, "d", broken)):
                with self.assertRaises(type(error)) as caught:
                    ask()
                self.assertIs(caught.exception, error)

    def test_methods_and_objects_that_are_called(self):
        class Talker:
            def __call__(self, said):
                return "b"

            def tell(self, said):
                return None

        told = least_talk(EXAMPLE, "c", Talker().tell, Talker())
        self.assertEqual(told, (["c", "b"], "opposer", "nothing"))

    def test_errors_in_their_order(self):
        for thing in not_statements(EXAMPLE):
            with self.assertRaises(NoStatement) as caught:
                least_talk(EXAMPLE, thing, None, None)
            self.assertIs(caught.exception.thing, thing)
        for thing in not_functions():
            with self.assertRaises(BadTalker) as caught:
                least_talk(EXAMPLE, "a", thing, 7)
            self.assertIs(caught.exception.thing, thing)
            with self.assertRaises(BadTalker) as caught:
                least_talk(EXAMPLE, "a", ignored, thing)
            self.assertIs(caught.exception.thing, thing)


def defender_wins(debate, said, defender):
    """Whether a defender wins against each opposer, told with what was said before its turn."""
    for objector in met(debate, said[-1]):
        told = defender(tuple(said) + (objector,))
        if told not in met(debate, objector) or told in said[::2]:
            return False
        if not defender_wins(debate, said + [objector, told], defender):
            return False
    return True


def opposer_wins(debate, said, opposer):
    """Whether an opposer wins against each defender."""
    told = opposer(tuple(said))
    if told not in met(debate, said[-1]):
        return False
    return all(
        answer in said[::2] or opposer_wins(debate, said + [told, answer], opposer)
        for answer in met(debate, told)
    )


def best_length(debate, said):
    """How many statements are said, the defender making it short, the opposer long; None if the defender loses."""
    lengths = [len(said)]
    for objector in met(debate, said[-1]):
        found = [
            best_length(debate, said + [objector, answer]) for answer in met(debate, objector)
            if answer not in said[::2]
        ]
        found = [length for length in found if length is not None]
        if not found:
            return None
        lengths.append(min(found))
    return max(lengths)


class TestWhoWins(unittest.TestCase):
    def test_just_one_of_both_and_it_wins_each_talk(self):
        for debate in tiny_debates() + all_debates(["a", "b", "c"])[::3] + drawn_debates(20, 4, 5):
            for name in debate.statements():
                defender = winning_defender(debate, name)
                opposer = winning_opposer(debate, name)
                self.assertIs(defender is None, opposer is not None)
                self.assertIs(defender is None, rank_of(debate, name) is None)
                if defender is None:
                    self.assertTrue(opposer_wins(debate, [name], opposer))
                else:
                    self.assertTrue(defender_wins(debate, [name], defender))

    def test_against_talkers_that_tell_odd_things(self):
        told = least_talk(EXAMPLE, "c", winning_defender(EXAMPLE, "c"), teller("d"))
        self.assertEqual(told, (["c"], "defender", "wrong"))
        told = least_talk(EXAMPLE, "b", teller("e"), winning_opposer(EXAMPLE, "b"))
        self.assertEqual(told, (["b", "a"], "opposer", "wrong"))

    def test_the_same_for_equal_debates(self):
        for debate in drawn_debates(20, 6, 23):
            other = Debate(tuple(debate.statements()[::-1]), [list(pair) for pair in debate.objections()[::-1]])
            for name in debate.statements():
                if rank_of(debate, name) is None:
                    def talker(said, debate=debate):
                        return max(met(debate, said[-1]), default=None)
                    self.assertEqual(beat_defender(debate, name, talker), beat_defender(other, name, talker))
                else:
                    defenders = winning_defender(debate, name), winning_defender(other, name)
                    for objector in met(debate, name):
                        told = [defender((name, objector)) for defender in defenders]
                        self.assertEqual(told[0], told[1])

    def test_by_names_and_alike(self):
        defender = winning_defender(statement="c", debate=EXAMPLE)
        self.assertEqual(defender(("c", "b")), "a")
        self.assertEqual(defender(["c", "b"]), "a")
        opposer = winning_opposer(statement="d", debate=EXAMPLE)
        self.assertEqual(opposer(("d",)), "e")

    def test_no_statement(self):
        for thing in not_statements(EXAMPLE):
            for ask in (winning_defender, winning_opposer, least_talk_length, best_talk):
                with self.assertRaises(NoStatement) as caught:
                    ask(EXAMPLE, thing)
                self.assertIs(caught.exception.thing, thing)

    def test_forty_statements(self):
        def first(said):
            return min(met(long_debate(), said[-1]), default=None)

        talk = least_talk(long_debate(), "n38", winning_defender(long_debate(), "n38"), first)
        self.assertEqual(talk, (long_names()[38::-1], "defender", "nothing"))
        talk = least_talk(long_debate(), "n39", first, winning_opposer(long_debate(), "n39"))
        self.assertEqual(talk, (long_names()[::-1], "opposer", "nothing"))


class TestBeaten(unittest.TestCase):
    def test_example(self):
        self.assertEqual(beat_defender(EXAMPLE, "d", lambda said: "d"), (["d", "e"], "opposer", "again"))

    def test_any_talker_is_beaten(self):
        talkers = [lambda said: None, lambda said: "a", lambda said: said[0], lambda said: said[-1], lambda said: 5]
        for debate in small_debates()[::3]:
            for name in debate.statements():
                def first(said, debate=debate):
                    return min(met(debate, said[-1]), default=None)
                for talker in talkers + [first]:
                    if rank_of(debate, name) is None:
                        said, winner, why = beat_defender(debate, name, talker)
                        self.assertEqual((said[0], winner), (name, "opposer"))
                        self.assertEqual(len(said) & 1, 0)
                        opposer = winning_opposer(debate, name)
                        self.assertEqual((said, winner, why), least_talk(debate, name, talker, opposer))
                        with self.assertRaises(HasDoubt) as caught:
                            beat_opposer(debate, name, talker)
                        self.assertTrue(is_doubt(debate, name, caught.exception.doubt))
                    else:
                        said, winner, why = beat_opposer(debate, name, talker)
                        self.assertEqual((said[0], winner), (name, "defender"))
                        self.assertIn(why, ("nothing", "wrong"))
                        with self.assertRaises(HasRank) as caught:
                            beat_defender(debate, name, talker)
                        self.assertEqual(caught.exception.rank, rank_of(debate, name))

    def test_asked_once_in_each_turn(self):
        heard = []

        def opposer(said):
            heard.append(said)
            return "b" if said == ("c",) else None

        self.assertEqual(beat_opposer(EXAMPLE, "c", opposer), (["c", "b", "a"], "defender", "nothing"))
        self.assertEqual(heard, [("c",), ("c", "b", "a")])

    def test_nobody_is_asked_where_there_is_none(self):
        def broken(said):
            raise AssertionError

        with self.assertRaises(HasRank):
            beat_defender(EXAMPLE, "c", broken)
        with self.assertRaises(HasDoubt) as caught:
            beat_opposer(EXAMPLE, "b", broken)
        self.assertEqual(list(caught.exception.doubt), sorted(caught.exception.doubt))
        self.assertTrue(is_doubt(EXAMPLE, "b", caught.exception.doubt))
        caught.exception.doubt.clear()
        self.assertEqual(len(greatest_doubt(EXAMPLE)), 3)

    def test_errors_in_their_order(self):
        for ask, good, bad in ((beat_defender, "b", "c"), (beat_opposer, "c", "b")):
            for thing in not_statements(EXAMPLE):
                with self.assertRaises(NoStatement) as caught:
                    ask(EXAMPLE, thing, None)
                self.assertIs(caught.exception.thing, thing)
            for thing in not_functions():
                for name in (good, bad):
                    with self.assertRaises(BadTalker) as caught:
                        ask(EXAMPLE, name, thing)
                    self.assertIs(caught.exception.thing, thing)

    def test_by_names(self):
        told = beat_defender(defender=ignored, statement="b", debate=EXAMPLE)
        self.assertEqual(told, (["b", "a"], "opposer", "nothing"))
        told = beat_opposer(opposer=ignored, statement="c", debate=EXAMPLE)
        self.assertEqual(told, (["c"], "defender", "nothing"))


class TestHowLong(unittest.TestCase):
    def test_example(self):
        self.assertEqual(least_talk_length(EXAMPLE, "c"), 3)
        self.assertEqual(best_talk(EXAMPLE, "c"), ["c", "b", "a"])

    def test_twice_the_rank_and_one(self):
        for debate in tiny_debates() + all_debates(["a", "b", "c"]) + drawn_debates(30, 4, 6):
            for name in debate.statements():
                length = best_length(debate, [name])
                self.assertEqual(least_talk_length(debate, name), length)
                rank = rank_of(debate, name)
                self.assertEqual(length, None if rank is None else 2 * rank + 1)

    def test_the_opposer_makes_it_long(self):
        for short, far in (("o", "p"), ("p", "o")):
            debate = Debate(["a", "b", "c", "d", "o", "p", "s"], [
                (short, "s"), (far, "s"), ("a", short), ("b", far), ("c", "b"), ("d", "c"),
            ])
            self.assertEqual(best_talk(debate, "s"), ["s", far, "b", "c", "d"])
            self.assertEqual(least_talk_length(debate, "s"), 5)

    def test_the_defender_makes_it_short(self):
        debate = Debate(["a", "b", "c", "d", "o", "s"], [("o", "s"), ("a", "o"), ("d", "o"), ("b", "a"), ("c", "b")])
        self.assertEqual(best_talk(debate, "s"), ["s", "o", "d"])

    def test_best_talks(self):
        for debate in small_debates() + drawn_debates(30, 8, 7):
            for name in debate.statements():
                talk = best_talk(debate, name)
                rank = rank_of(debate, name)
                self.assertIs(talk is None, rank is None)
                if talk is not None:
                    self.assertEqual((talk[0], len(talk)), (name, 2 * rank + 1))
                    self.assertEqual([rank_of(debate, one) for one in talk[::2]], list(range(rank, -1, -1)))
                    for one, other in zip(talk, talk[1:]):
                        self.assertIn(other, met(debate, one))
                    other = Debate(debate.statements()[::-1], debate.objections()[::-1])
                    self.assertEqual(best_talk(other, name), talk)

    def test_forty_statements_and_names(self):
        self.assertEqual(least_talk_length(statement="n38", debate=long_debate()), 39)
        self.assertEqual(best_talk(statement="n38", debate=long_debate()), long_names()[38::-1])
        self.assertIsNone(least_talk_length(long_debate(), "n39"))
        self.assertIsNone(best_talk(long_debate(), "n39"))
        best_talk(EXAMPLE, "c").clear()
        self.assertEqual(best_talk(EXAMPLE, "c"), ["c", "b", "a"])
