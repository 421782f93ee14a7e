"""Point 4: the errors, all of them."""

import unittest

from objections import errors

INDEX = """BadAbsent BadAudience BadBench BadClaims BadFamily BadGroups BadIns BadLot BadNeeds BadObjections BadOuts
BadPairs BadRecords BadRing BadRules BadStatements BadTables""".split()
THING = """BadAsker BadChances BadClaim BadDebate BadDeed BadHow BadJudge BadJudges BadKind BadMany BadName BadNames
BadNumber BadPiece BadQuestion BadQuota BadReading BadRule BadTable BadTalker BadTruth BadValue BadWay BadWeights
BadWorths IsWatched NoCount NoGate NoStatement NoString NoTable NoThing NoTruth NotWatched""".split()
NAME = "NoSpeaker NotOwn NotThere SharedName TakenName".split()
OTHERS = {
    "BadText": ["line"], "BadVerdict": ["table", "thing"], "CanBeTold": [], "HasDoubt": ["doubt"], "HasRank": ["rank"],
    "InUse": ["question"], "IsEnough": [], "IsObjected": ["one", "other"], "NoDebate": ["records"], "NoFit": ["many"],
    "NoObjection": ["one", "other"], "NotGreatest": ["fault"], "NotHeld": ["fault"], "NotRising": ["one", "other"],
    "NotWhole": ["fault"], "NothingFits": [], "UnlikeClaims": [], "UnlikeGates": [], "WouldChange": ["question"],
}


def parameters():
    """The parameters of each error of the interface."""
    found = dict(OTHERS)
    found.update({name: ["index"] for name in INDEX})
    found.update({name: ["thing"] for name in THING})
    found.update({name: ["name"] for name in NAME})
    return found


class TestErrors(unittest.TestCase):
    def test_there_are_just_these(self):
        found = [name for name in vars(errors) if isinstance(getattr(errors, name), type)]
        self.assertEqual(sorted(found), sorted(list(parameters()) + ["DebateError"]))
        self.assertEqual(len(found), 76)

    def test_each_is_a_class_of_its_own_right_beneath(self):
        for name in parameters():
            kind = getattr(errors, name)
            self.assertEqual(kind.__bases__, (errors.DebateError,), name)
            self.assertEqual(kind.__name__, name)
            self.assertEqual(kind.__module__, "objections.errors")

    def test_the_error_above_all(self):
        self.assertEqual(errors.DebateError.__bases__, (ValueError,))
        self.assertIsInstance(errors.DebateError(), ValueError)
        with self.assertRaises(errors.DebateError):
            raise errors.DebateError()

    def test_they_keep_the_very_objects(self):
        for name, names in parameters().items():
            things = [[name] for name in names]
            kind = getattr(errors, name)
            for made in (kind(*things), kind(**dict(zip(names, things)))):
                for parameter, thing in zip(names, things):
                    self.assertIs(getattr(made, parameter), thing, name)
                self.assertIsInstance(made, errors.DebateError)


if __name__ == "__main__":
    unittest.main()
