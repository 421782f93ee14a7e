"""Halls: a debate that lives by what speakers do."""

from objections.checks import is_index, is_word
from objections.debates import check_statement
from objections.errors import BadDeed, BadQuestion, NoCount
from objections.halldeeds import (
    changes_between, check_deed, check_kept, check_speaker, done_behind, first_kept, own_deeds, read_deed,
    state_behind, told_deed, unasked,
)
from objections.hallquestions import answer_in, read_question
from objections.hallstates import empty_state, is_same_state, said_by, speakers_in
from objections.lots import least_lot
from objections.things import Thing


class Hall(Thing):
    """Statements that speakers say, objections between them, and questions that are watched."""

    def __init__(self):
        # Pairs of a deed and the state behind it, none of which is ever changed; those taken back, the last one last.
        self._past = [(None, empty_state())]
        self._taken = []

    def now(self):
        return state_of(self).debate

    def speakers(self):
        state = state_of(self)
        return {speaker: said_by(state, speaker) for speaker in speakers_in(state)}

    def watched(self):
        state = state_of(self)
        return [(question, answer_in(state, question), is_held) for question, is_held in state.asked]

    def do(self, deed):
        state = state_of(self)
        told, further = deed_done(state, deed)
        check_kept(state, further)
        self._past = self._past + [(told, further)]
        self._taken = []
        return changes_between(state, further)

    def is_question(self, thing):
        return read_question(self.now(), thing) is not None

    def answer(self, question):
        read = read_question(self.now(), question)
        if read is None:
            raise BadQuestion(question)
        return answer_in(state_of(self), read)

    def would(self, deed):
        state = state_of(self)
        _, further = deed_done(state, deed)
        return changes_between(state, further)

    def helps(self, speaker, statement):
        state = state_of(self)
        check_speaker(state, speaker)
        check_statement(state.owners, statement)
        return [deed for deed in own_deeds(state, speaker) if is_help(state, deed, statement)]

    def count(self):
        return len(self._past) - 1

    def undo(self):
        if self.count() == 0:
            return None
        self._taken = self._taken + [self._past[-1]]
        self._past = self._past[:-1]
        return self._taken[-1][0]

    def again(self):
        if not self._taken:
            return None
        self._past = self._past + [self._taken[-1]]
        self._taken = self._taken[:-1]
        return self._past[-1][0]

    def deeds(self):
        return [deed for deed, _ in self._past[1:]]

    def at(self, number):
        if not is_index(number, self.count() + 1):
            raise NoCount(number)
        return hall_by(self._past[:number + 1], [])

    def copy(self):
        return hall_by(self._past, self._taken)

    def trial(self, work):
        past = self._past
        taken = self._taken
        try:
            return work(self)
        finally:
            self._past = past
            self._taken = taken

    def __eq__(self, other):
        return isinstance(other, Hall) and is_same_state(state_of(self), state_of(other))


def state_of(hall):
    """What a hall is now."""
    return hall._past[-1][1]


def hall_by(past, taken):
    """A hall with this behind it, and this to be done again."""
    hall = Hall()
    hall._past = past
    hall._taken = taken
    return hall


def hall_at(state):
    """A hall that is in a state, no deed being done."""
    return hall_by([(None, state)], [])


def deed_done(state, thing):
    """Any object as a deed, and the state behind it; or the first error for which it is refused but WouldChange."""
    deed = read_deed(thing)
    if deed is None:
        raise BadDeed(thing)
    check_deed(state, deed)
    told = told_deed(state, deed)
    return (told, done_behind(state, told))


def is_help(state, deed, statement):
    """Whether a deed that is none of the wrong ones can be done, and lets a statement into the least lot."""
    further = state_behind(state, deed)
    if not is_word(statement, least_lot(further.debate)) or unasked(state, further) is not None:
        return False
    return first_kept(state, further) is None
