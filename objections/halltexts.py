"""Halls as texts."""

from objections.checks import is_name
from objections.debates import Debate
from objections.errors import BadText
from objections.hallquestions import read_question
from objections.halls import hall_at, state_of
from objections.hallstates import HallState


def write_hall(hall):
    """The text of a hall: who says what, what objects to what, what is watched and held."""
    state = state_of(hall)
    said = sorted([(speaker, name) for name, speaker in state.owners.items()])
    lines = [f"say {speaker} {name}\n" for speaker, name in said]
    lines.extend([f"object {one} {other}\n" for one, other in state.debate.objections()])
    for question, is_held in state.asked:
        word = "hold" if is_held else "watch"
        lines.append(f"{word} {written_question(question)}\n")
    return "".join(lines)


def written_question(question):
    """A question as a text."""
    return " ".join([part if isinstance(part, str) else ",".join(part) or "-" for part in question])


def read_hall(text):
    """The hall with a text, no deed being done."""
    if not isinstance(text, str):
        raise BadText(0)
    lines = text.split("\n")
    rest = lines[:-1]
    owners = read_says(rest)
    rest = rest[len(owners):]
    pairs = read_objections(rest, owners)
    rest = rest[len(pairs):]
    asked = read_questions(rest, Debate(list(owners), pairs))
    rest = rest[len(asked):]
    if rest:
        raise BadText(len(lines) - len(rest))
    if lines[-1] != "":
        raise BadText(len(lines))
    return hall_at(HallState(owners, pairs, asked, {}))


def read_pair(line, word):
    """The pair of names that stands in a line behind a word, None for any other line."""
    parts = line.split(" ")
    if len(parts) != 3 or parts[0] != word or not is_name(parts[1]) or not is_name(parts[2]):
        return None
    return (parts[1], parts[2])


def read_says(lines):
    """The dict from statements to their speakers, by the lines that begin rightly; each line tells one."""
    owners = {}
    last = ("", "")
    for line in lines:
        pair = read_pair(line, "say")
        if pair is None or pair <= last or pair[1] in owners:
            return owners
        owners[pair[1]] = pair[0]
        last = pair
    return owners


def read_objections(lines, owners):
    """The ascending list of the objections, likewise."""
    pairs = []
    last = ("", "")
    for line in lines:
        pair = read_pair(line, "object")
        if pair is None or pair <= last or pair[0] not in owners or pair[1] not in owners:
            return pairs
        pairs.append(pair)
        last = pair
    return pairs


def read_questions(lines, debate):
    """The list of the watched questions, each with whether it is held, likewise."""
    asked = []
    for line in lines:
        parts = line.split(" ")
        question = read_question(debate, read_parts(parts[1:]))
        if parts[0] not in ("watch", "hold") or question is None or question in [known for known, _ in asked]:
            return asked
        asked.append((question, parts[0] == "hold"))
    return asked


def read_parts(parts):
    """The parts of a question, lots as lists."""
    if parts and parts[0] == "alike":
        return parts[:1] + [read_lot(part) for part in parts[1:3]] + parts[3:]
    return parts


def read_lot(part):
    """The names that stand in a part of a line."""
    return [] if part == "-" else part.split(",")
