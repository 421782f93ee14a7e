"""Points 82, 83 and 88: supports, arguments, and the debate that these make."""

from objections.arguments import arguments, debate_of, lot_behind, reading_of, supports
from objections.errors import BadClaim, BadLot, BadReading, NotWhole
from objections.lots import lots_of
from objections.parts import lots_by_parts
from objections.readings import readings
from objections.rules import Rules
from tests.helper import Case, any_objects, ascending, lots_by_words, not_words, subsets, whole
from tests.rulewords import EIGHT, K, ODD, WAYS, drawn_rules, follows_by_words, many_rules, small_rules, thirty_rules


def supports_by_words(known, claim):
    """All supports, straight from the words."""
    some = sorted({one for _, _, unless in known.triples() for one in unless})
    fit = [lot for lot in subsets(some) if claim in follows_by_words(known, lot)]
    return [lot for lot in fit if not any(set(other) < set(lot) for other in fit)]


def debates_with_few():
    """Rules whose debates have at most eight statements."""
    found = small_rules()[::2] + drawn_rules(60, 3, 5, 310) + drawn_rules(25, 4, 6, 311)
    return [known for known in found if len(arguments(known)) <= 8]


class TestSupports(Case):
    def test_example(self):
        self.assertEqual(arguments(K), [("a", ("b",)), ("b", ("a",)), ("c", ("a",)), ("c", ("b",))])
        self.assertEqual(supports(claim="c", known=K), [["a"], ["b"]])

    def test_by_words(self):
        for known in small_rules() + many_rules():
            rows = []
            for claim in known.claims():
                told = supports(known, claim)
                self.assertEqual(told, supports_by_words(known, claim))
                rows += [(claim, tuple(support)) for support in told]
            self.assertEqual(arguments(known), rows)

    def test_edges(self):
        known = Rules(["a", "b", "c", "d"], [
            ("a", [], []), ("b", ["a"], []), ("c", ["c"], ["b"]), ("d", [], ["c", "d"])])
        self.assertEqual([supports(known, claim) for claim in "abcd"], [[[]], [[]], [], [["c", "d"]]])
        self.assertEqual(arguments(known), [("a", ()), ("b", ()), ("d", ("c", "d"))])
        self.assertEqual(arguments(Rules([], [])), [])
        twice = Rules(["a", "b"], [("a", [], ["b"]), ("a", [], ["b"]), ("a", [], [])])
        self.assertEqual(supports(twice, "a"), [[]])
        self.assertEqual(supports(ODD, "a"), [["a"]])

    def test_new_each_time(self):
        supports(K, "c")[0].clear()
        arguments(K).clear()
        self.assertEqual((supports(K, "c"), len(arguments(K))), ([["a"], ["b"]], 4))

    def test_bad_claim(self):
        for thing in not_words(["a", "b", "c"]):
            self.refuses(BadClaim, {"thing": thing}, supports, K, thing)
        for thing in any_objects():
            self.refuses(BadClaim, {"thing": thing}, supports, Rules([], []), thing)

    def test_at_the_limit(self):
        known = thirty_rules(EIGHT)
        for claim in EIGHT:
            self.assertEqual(supports(known, claim), supports_by_words(known, claim))


class TestDebate(Case):
    def test_example(self):
        debate = debate_of(K)
        self.assertEqual(debate.statements(), ["s0", "s1", "s2", "s3"])
        self.assertEqual(debate.objections(), [("s0", "s1"), ("s0", "s2"), ("s1", "s0"), ("s1", "s3")])
        self.assertEqual(reading_of(K, ["s3", "s0"]), {"a": "in", "b": "out", "c": "in"})
        self.assertEqual(reading_of(lot=(), known=K), {"a": "undecided", "b": "undecided", "c": "undecided"})
        self.assertEqual(lot_behind(K, {"c": "in", "b": "out", "a": "in"}), ["s0", "s3"])
        self.assertEqual(lot_behind(reading=readings(K, "least")[0], known=K), [])

    def test_by_words(self):
        for known in many_rules():
            rows = arguments(known)
            debate = debate_of(known)
            self.assertEqual(debate.statements(), sorted(f"s{at}" for at in range(len(rows))))
            self.assertEqual(debate.objections(), sorted(
                (f"s{at}", f"s{turn}") for at, (claim, _) in enumerate(rows) for turn, (_, support) in enumerate(rows)
                if claim in support))

    def test_one_to_one(self):
        """Readings and whole lots are one to one, way by way."""
        for known in debates_with_few():
            debate = debate_of(known)
            rows = arguments(known)
            for way in WAYS:
                lots = lots_by_words(debate, way)
                right = readings(known, way)
                told = [reading_of(known, lot[::-1]) for lot in lots]
                self.assertTrue(all(ascending(reading) for reading in told))
                self.assertEqual(sorted(map(repr, told)), sorted(map(repr, right)), (known.triples(), way))
                for lot, reading in zip(lots, told):
                    self.assertEqual(lot_behind(known, reading), lot)
                    for claim in known.claims():
                        mine = [f"s{at}" for at, (one, _) in enumerate(rows) if one == claim]
                        self.assertEqual(reading[claim] == "in", any(name in lot for name in mine))
                        self.assertEqual(reading[claim] == "out", all(
                            any((member, name) in debate.objections() for member in lot) for name in mine))

    def test_edges(self):
        none = Rules([], [])
        self.assertEqual((len(debate_of(none)), reading_of(none, []), lot_behind(none, {})), (0, {}, []))
        self.assertEqual(debate_of(ODD).objections(), [("s0", "s0")])
        self.assertEqual(reading_of(ODD, []), {"a": "undecided"})
        facts = Rules(["a", "b"], [("a", [], []), ("a", [], ["b"])])
        self.assertEqual(arguments(facts), [("a", ())])
        self.assertEqual(reading_of(facts, ["s0"]), {"a": "in", "b": "out"})
        self.assertEqual(lot_behind(facts, {"a": "in", "b": "out"}), ["s0"])

    def test_numbers_beyond_nine(self):
        """Statements go by the order of arguments, lots by that of names."""
        names = EIGHT[:6]
        known = Rules(names, [rule for at in (0, 2, 4) for rule in (
            (names[at], [], [names[at + 1]]), (names[at + 1], [], [names[at]]))] + [
            (names[0], [names[2], names[4]], []), (names[1], [names[3], names[5]], []), (names[3], [names[1]], []),
            (names[2], [names[5]], [])])
        rows = arguments(known)
        self.assertGreater(len(rows), 10)
        for reading in readings(known, "whole"):
            lot = lot_behind(known, reading)
            self.assertEqual(lot, sorted(lot))
            self.assertEqual(reading_of(known, lot), reading)

    def test_at_the_limit(self):
        known = thirty_rules(EIGHT)
        debate = debate_of(known)
        self.assertGreater(len(debate), 20)
        for reading in readings(known, "whole"):
            lot = lot_behind(known, reading)
            self.assertEqual(reading_of(known, lot), reading)
        names = EIGHT[:6]
        most = Rules(EIGHT, [(EIGHT[at], [], [name for turn, name in enumerate(names) if lot >> turn & 1])
                             for at in (6, 7) for lot in range(64) if bin(lot).count("1") == 3][:30])
        self.assertEqual(len(arguments(most)), 30)
        for lot in lots_by_parts(debate_of(most), "whole"):
            self.assertEqual(lot_behind(most, reading_of(most, lot)), lot)

    def test_ways_of_the_example(self):
        for way in WAYS:
            told = [reading_of(K, lot) for lot in lots_of(debate_of(K), way)]
            self.assertEqual(sorted(map(repr, told)), sorted(map(repr, readings(K, way))))

    def test_bad_lot(self):
        for thing in any_objects() + ["s4", "s0", ["s1"]]:
            if thing != "s1":
                self.refuses(BadLot, {"index": 1}, reading_of, K, ["s0", thing, thing])
        self.refuses_no_lists(BadLot, reading_of, K)

    def test_not_whole(self):
        debate = debate_of(K)
        self.refuses(NotWhole, {"fault": ("clash", "s0", "s1")}, reading_of, K, ["s1", "s0"])
        self.refuses(NotWhole, {"fault": ("unanswered", "s2", "s0")}, reading_of, K, ["s2"])
        self.refuses(NotWhole, {"fault": ("lacks", "s3")}, reading_of, K, ["s0"])
        for lot in subsets(debate.statements()):
            if not whole(debate, lot):
                with self.assertRaises(NotWhole):
                    reading_of(K, lot)

    def test_bad_reading(self):
        for thing in any_objects() + [{"a": "in", "b": "out"}, {"a": "in", "b": "in", "c": "in"}, [("a", "in")]]:
            self.refuses(BadReading, {"thing": thing}, lot_behind, K, thing)

    def test_new_each_time(self):
        reading_of(K, []).clear()
        reading = {"a": "in", "b": "out", "c": "in"}
        lot_behind(K, reading).clear()
        self.assertEqual(lot_behind(K, reading), ["s0", "s3"])
        self.assertEqual(reading_of(K, ["s0", "s3"]), reading)
