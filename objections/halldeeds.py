"""Deeds that are done in a hall: what keeps them from being done, and what they make of it."""

from objections.checks import is_list, is_name
from objections.debates import check_statement
from objections.errors import (
    BadQuestion, InUse, IsObjected, IsWatched, NoObjection, NoSpeaker, NotOwn, NotWatched, TakenName, WouldChange,
)
from objections.hallquestions import answer_in, read_question
from objections.hallstates import HallState, said_by, speakers_in

LENGTHS = {"say": 3, "object": 4, "yield": 4, "take": 3, "leave": 2, "watch": 2, "hold": 2, "free": 2}
WATCHING = ("watch", "hold", "free")


def read_deed(thing):
    """Any object as a deed, a tuple, None if it is none; a question may be any object still."""
    if not is_list(thing) or len(thing) == 0 or not isinstance(thing[0], str) or thing[0] not in LENGTHS:
        return None
    if len(thing) != LENGTHS[thing[0]]:
        return None
    if thing[0] not in WATCHING and not all([is_name(part) for part in thing[1:]]):
        return None
    return tuple(thing)


def check_deed(state, deed):
    """The first error for which a deed is refused, but those for which it has to be done first."""
    word = deed[0]
    if word in WATCHING:
        check_watching(state, word, deed[1])
    elif word == "say":
        if deed[2] in state.owners:
            raise TakenName(deed[2])
    elif word == "leave":
        check_speaker(state, deed[1])
    else:
        check_own(state, deed)


def check_speaker(state, speaker):
    """NoSpeaker for any object that is none who has said something."""
    if speaker not in speakers_in(state):
        raise NoSpeaker(speaker)


def check_own(state, deed):
    """The errors of a deed about a speaker's own statement, and about its objection to another one."""
    for name in deed[2:]:
        check_statement(state.owners, name)
    if state.owners[deed[2]] != deed[1]:
        raise NotOwn(deed[2])
    is_there = deed[2:] in state.debate.objections()
    if deed[0] == "object" and is_there:
        raise IsObjected(deed[2], deed[3])
    if deed[0] == "yield" and not is_there:
        raise NoObjection(deed[2], deed[3])


def check_watching(state, word, thing):
    """The errors of a deed about any object as a question."""
    question = read_question(state.debate, thing)
    if question is None:
        raise BadQuestion(thing)
    held = dict(state.asked).get(question)
    if word == "watch" and held is not None or word == "hold" and held is True:
        raise IsWatched(thing)
    if word == "free" and held is None:
        raise NotWatched(thing)


def told_deed(state, deed):
    """A deed that is none of the wrong ones, of tuples throughout."""
    return (deed[0], read_question(state.debate, deed[1])) if deed[0] in WATCHING else deed


def state_behind(state, deed):
    """What a deed that is told makes of a state."""
    word = deed[0]
    pairs = state.debate.objections()
    if word in WATCHING:
        # The debate stays, and with it all answers.
        return HallState(state.owners, pairs, asked_behind(state.asked, word, deed[1]), state.known)
    if word == "say":
        return HallState({**state.owners, deed[2]: deed[1]}, pairs, state.asked, {})
    if word == "object":
        return HallState(state.owners, pairs + [deed[2:]], state.asked, {})
    if word == "yield":
        return HallState(state.owners, [pair for pair in pairs if pair != deed[2:]], state.asked, {})
    gone = said_by(state, deed[1]) if word == "leave" else [deed[2]]
    owners = {name: speaker for name, speaker in state.owners.items() if name not in gone}
    kept = [(one, other) for one, other in pairs if one in owners and other in owners]
    return HallState(owners, kept, state.asked, {})


def asked_behind(asked, word, question):
    """The watched questions behind a deed about one."""
    others = [(other, is_held) for other, is_held in asked if other != question]
    if word == "free":
        return others
    if len(others) < len(asked):
        return [(other, is_held or other == question) for other, is_held in asked]
    return asked + [(question, word == "hold")]


def unasked(state, further):
    """The first watched question of a state that is none in a further one, None if there is none."""
    for question, _ in state.asked:
        if read_question(further.debate, question) is None:
            return question
    return None


def changes_between(state, further):
    """The triples of the watched questions that are answered otherwise in a further state, and both answers."""
    rows = [(question, answer_in(state, question), answer_in(further, question)) for question, _ in state.asked]
    return [(question, ahead, behind) for question, ahead, behind in rows if ahead != behind]


def first_kept(state, further):
    """The first held question that would be answered otherwise in a further state, None if there is none."""
    for question, is_held in state.asked:
        if is_held and answer_in(state, question) != answer_in(further, question):
            return question
    return None


def done_behind(state, deed):
    """The state behind a deed that is told, or InUse."""
    further = state_behind(state, deed)
    question = unasked(state, further)
    if question is not None:
        raise InUse(question)
    return further


def check_kept(state, further):
    """WouldChange where a held question would be answered otherwise."""
    question = first_kept(state, further)
    if question is not None:
        raise WouldChange(question)


def own_deeds(state, speaker):
    """The ascending list of the deeds about own statements of a speaker that are none of the wrong ones."""
    own = said_by(state, speaker)
    pairs = state.debate.objections()
    names = state.debate.statements()
    free = [(one, other) for one in own for other in names if (one, other) not in pairs]
    deeds = [("object", speaker, one, other) for one, other in free]
    deeds.extend([("take", speaker, name) for name in own])
    deeds.extend([("yield", speaker, one, other) for one, other in pairs if one in own])
    return deeds
