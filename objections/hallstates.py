"""What a hall is at a time: what stands there, who said it, and what is watched; it never changes."""

from objections.debates import Debate


class HallState:
    """A debate with the speakers of its statements, and the watched questions, each with whether it is held."""

    def __init__(self, owners, pairs, asked, known):
        self.owners = owners
        self.debate = Debate(list(owners), pairs)
        self.asked = asked
        # Answers that were worked out already, by their questions.
        self.known = known


def empty_state():
    """The state in which there is nothing."""
    return HallState({}, [], [], {})


def is_same_state(one, other):
    """Whether the same is said by the same speakers, with the same objections, and the same is watched and held."""
    return one.owners == other.owners and one.debate == other.debate and one.asked == other.asked


def said_by(state, speaker):
    """The ascending list of what a speaker has said."""
    return [name for name in state.debate.statements() if state.owners[name] == speaker]


def speakers_in(state):
    """The ascending list of those who have said something."""
    return sorted(set(list(state.owners.values())))
