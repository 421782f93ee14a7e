"""Talks about a statement: between a defender who never says a thing again and an opposer."""

from objections.checks import is_function, is_word
from objections.debates import is_statement, objectors, place_of
from objections.doubts import greatest_doubt
from objections.errors import BadTalker, HasDoubt, HasRank
from objections.ranking import rank_of, ranks_of


def check_talker(talker):
    """BadTalker for any object that is no function."""
    if not is_function(talker):
        raise BadTalker(talker)


def least_talk(debate, statement, defender, opposer):
    """The talk of these two, as (said, winner, why)."""
    place_of(debate, statement)
    check_talker(defender)
    check_talker(opposer)
    said = [statement]
    while True:
        why = take_turn(debate, said, opposer, [])
        if why is not None:
            return (said, "defender", why)
        why = take_turn(debate, said, defender, said[::2])
        if why is not None:
            return (said, "opposer", why)


def take_turn(debate, said, talker, barred):
    """None if the talker says what it may, which is put to what was said; else why it loses."""
    told = talker(tuple(said))
    if told is None:
        return "nothing"
    if not is_word(told, objectors(debate, said[-1])):
        return "wrong"
    if told in barred:
        return "again"
    said.append(told)
    return None


def winning_defender(debate, statement):
    """A defender that wins each talk about a statement, None if there is none."""
    if rank_of(debate, statement) is None:
        return None
    return defender_by_ranks(debate)


def defender_by_ranks(debate):
    """The defender that answers by the objector of least rank."""
    ranks = ranks_of(debate)

    def defender(said):
        return least_answer(debate, ranks, said[-1]) if is_statement(debate, said[-1]) else None

    return defender


def winning_opposer(debate, statement):
    """An opposer that wins each talk about a statement, None if there is none."""
    if rank_of(debate, statement) is not None:
        return None
    return opposer_by_doubt(greatest_doubt(debate))


def opposer_by_doubt(doubt):
    """The opposer that says what the doubt tells of what was said last."""

    def opposer(said):
        return doubt.get(said[-1])

    return opposer


def beat_defender(debate, statement, defender):
    """The talk of a defender against an opposer that wins; HasRank if there is none."""
    place_of(debate, statement)
    check_talker(defender)
    rank = rank_of(debate, statement)
    if rank is not None:
        raise HasRank(rank)
    return least_talk(debate, statement, defender, winning_opposer(debate, statement))


def beat_opposer(debate, statement, opposer):
    """The talk of an opposer against a defender that wins; HasDoubt if there is none."""
    place_of(debate, statement)
    check_talker(opposer)
    if rank_of(debate, statement) is None:
        raise HasDoubt(greatest_doubt(debate))
    return least_talk(debate, statement, winning_defender(debate, statement), opposer)


def least_talk_length(debate, statement):
    """How many statements a talk has in which both do their best, None if the defender does not win."""
    rank = rank_of(debate, statement)
    return None if rank is None else 2 * rank + 1


def best_talk(debate, statement):
    """What is said in such a talk, None likewise."""
    if rank_of(debate, statement) is None:
        return None
    ranks = ranks_of(debate)
    said = [statement]
    met = objectors(debate, statement)
    while met:
        answers = [least_answer(debate, ranks, objector) for objector in met]
        longest = max([ranks[answer] for answer in answers])
        turn = [ranks[answer] for answer in answers].index(longest)
        said.extend([met[turn], answers[turn]])
        met = objectors(debate, said[-1])
    return said


def least_answer(debate, ranks, objector):
    """The first one of least rank that objects to an objector, None if none with a rank does."""
    ranked = [name for name in objectors(debate, objector) if name in ranks]
    return min(ranked, key=lambda name: ranks[name]) if ranked else None
