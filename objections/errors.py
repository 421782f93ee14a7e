"""All errors of the package, each one right beneath DebateError; they keep what they are made with."""


class DebateError(ValueError):
    """Told of what is passed and is not what it should be."""


class BadAbsent(DebateError):
    def __init__(self, index):
        self.index = index


class BadAsker(DebateError):
    def __init__(self, thing):
        self.thing = thing


class BadAudience(DebateError):
    def __init__(self, index):
        self.index = index


class BadBench(DebateError):
    def __init__(self, index):
        self.index = index


class BadChances(DebateError):
    def __init__(self, thing):
        self.thing = thing


class BadClaim(DebateError):
    def __init__(self, thing):
        self.thing = thing


class BadClaims(DebateError):
    def __init__(self, index):
        self.index = index


class BadDebate(DebateError):
    def __init__(self, thing):
        self.thing = thing


class BadDeed(DebateError):
    def __init__(self, thing):
        self.thing = thing


class BadFamily(DebateError):
    def __init__(self, index):
        self.index = index


class BadGroups(DebateError):
    def __init__(self, index):
        self.index = index


class BadHow(DebateError):
    def __init__(self, thing):
        self.thing = thing


class BadIns(DebateError):
    def __init__(self, index):
        self.index = index


class BadJudge(DebateError):
    def __init__(self, thing):
        self.thing = thing


class BadJudges(DebateError):
    def __init__(self, thing):
        self.thing = thing


class BadKind(DebateError):
    def __init__(self, thing):
        self.thing = thing


class BadLot(DebateError):
    def __init__(self, index):
        self.index = index


class BadMany(DebateError):
    def __init__(self, thing):
        self.thing = thing


class BadName(DebateError):
    def __init__(self, thing):
        self.thing = thing


class BadNames(DebateError):
    def __init__(self, thing):
        self.thing = thing


class BadNeeds(DebateError):
    def __init__(self, index):
        self.index = index


class BadNumber(DebateError):
    def __init__(self, thing):
        self.thing = thing


class BadObjections(DebateError):
    def __init__(self, index):
        self.index = index


class BadOuts(DebateError):
    def __init__(self, index):
        self.index = index


class BadPairs(DebateError):
    def __init__(self, index):
        self.index = index


class BadPiece(DebateError):
    def __init__(self, thing):
        self.thing = thing


class BadQuestion(DebateError):
    def __init__(self, thing):
        self.thing = thing


class BadQuota(DebateError):
    def __init__(self, thing):
        self.thing = thing


class BadReading(DebateError):
    def __init__(self, thing):
        self.thing = thing


class BadRecords(DebateError):
    def __init__(self, index):
        self.index = index


class BadRing(DebateError):
    def __init__(self, index):
        self.index = index


class BadRule(DebateError):
    def __init__(self, thing):
        self.thing = thing


class BadRules(DebateError):
    def __init__(self, index):
        self.index = index


class BadStatements(DebateError):
    def __init__(self, index):
        self.index = index


class BadTable(DebateError):
    def __init__(self, thing):
        self.thing = thing


class BadTables(DebateError):
    def __init__(self, index):
        self.index = index


class BadTalker(DebateError):
    def __init__(self, thing):
        self.thing = thing


class BadText(DebateError):
    def __init__(self, line):
        self.line = line


class BadTruth(DebateError):
    def __init__(self, thing):
        self.thing = thing


class BadValue(DebateError):
    def __init__(self, thing):
        self.thing = thing


class BadVerdict(DebateError):
    def __init__(self, table, thing):
        self.table = table
        self.thing = thing


class BadWay(DebateError):
    def __init__(self, thing):
        self.thing = thing


class BadWeights(DebateError):
    def __init__(self, thing):
        self.thing = thing


class BadWorths(DebateError):
    def __init__(self, thing):
        self.thing = thing


class CanBeTold(DebateError):
    """Told where the asker may know within so many questions."""


class HasDoubt(DebateError):
    def __init__(self, doubt):
        self.doubt = doubt


class HasRank(DebateError):
    def __init__(self, rank):
        self.rank = rank


class InUse(DebateError):
    def __init__(self, question):
        self.question = question


class IsEnough(DebateError):
    """Told where so many questions are enough for a right tree."""


class IsObjected(DebateError):
    def __init__(self, one, other):
        self.one = one
        self.other = other


class IsWatched(DebateError):
    def __init__(self, thing):
        self.thing = thing


class NoCount(DebateError):
    def __init__(self, thing):
        self.thing = thing


class NoDebate(DebateError):
    def __init__(self, records):
        self.records = records


class NoFit(DebateError):
    def __init__(self, many):
        self.many = many


class NoGate(DebateError):
    def __init__(self, thing):
        self.thing = thing


class NoObjection(DebateError):
    def __init__(self, one, other):
        self.one = one
        self.other = other


class NoSpeaker(DebateError):
    def __init__(self, name):
        self.name = name


class NoStatement(DebateError):
    def __init__(self, thing):
        self.thing = thing


class NoString(DebateError):
    def __init__(self, thing):
        self.thing = thing


class NoTable(DebateError):
    def __init__(self, thing):
        self.thing = thing


class NoThing(DebateError):
    def __init__(self, thing):
        self.thing = thing


class NoTruth(DebateError):
    def __init__(self, thing):
        self.thing = thing


class NotGreatest(DebateError):
    def __init__(self, fault):
        self.fault = fault


class NotHeld(DebateError):
    def __init__(self, fault):
        self.fault = fault


class NotOwn(DebateError):
    def __init__(self, name):
        self.name = name


class NotRising(DebateError):
    def __init__(self, one, other):
        self.one = one
        self.other = other


class NotThere(DebateError):
    def __init__(self, name):
        self.name = name


class NotWatched(DebateError):
    def __init__(self, thing):
        self.thing = thing


class NotWhole(DebateError):
    def __init__(self, fault):
        self.fault = fault


class NothingFits(DebateError):
    """Told where no debate fits."""


class SharedName(DebateError):
    def __init__(self, name):
        self.name = name


class TakenName(DebateError):
    def __init__(self, name):
        self.name = name


class UnlikeClaims(DebateError):
    """Told of rules that have not the same claims."""


class UnlikeGates(DebateError):
    """Told of pieces that have not as many gates."""


class WouldChange(DebateError):
    def __init__(self, question):
        self.question = question
