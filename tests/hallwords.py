"""A hall done step by step from the words of section 15, and deeds drawn for it."""

from objections import errors
from objections.debates import Debate
from objections.pieces import Piece
from tests.helper import (
    HOWS, WAYS, least_by_words, lots_by_words, objects, ranks_by_words, stands_by_words, subsets,
    table_by_words,
)

TABLE_WAYS = ["whole", "least", "settled"]
EXAMPLE = [
    ("say", "x", "a"), ("say", "y", "b"), ("say", "z", "c"), ("object", "y", "b", "a"), ("watch", ("label", "a")),
    ("hold", ("won", "y")),
]


def as_tuples(thing):
    return tuple(as_tuples(part) for part in thing) if isinstance(thing, (list, tuple)) else thing


def is_name(thing):
    return isinstance(thing, str) and thing.isalnum() and thing.islower() and thing[0].isalpha() and len(thing) < 13


def is_question(debate, thing):
    """Whether an object is a question of a debate, straight from the words."""
    if not isinstance(thing, (list, tuple)) or not thing or not isinstance(thing[0], str):
        return False
    names = debate.statements()

    def word(words):
        return lambda part: isinstance(part, str) and part in words

    def lot(part):
        return isinstance(part, (list, tuple)) and list(part) in subsets(names)

    parts = {
        "stands": [word(WAYS), word(names), word(HOWS)], "lots": [word(WAYS)], "label": [word(names)],
        "rank": [word(names)], "sure": [word(names)], "won": [is_name], "alike": [lot, lot, word(TABLE_WAYS)],
    }.get(thing[0])
    return parts is not None and len(parts) == len(thing) - 1 and all(
        fits(part) for fits, part in zip(parts, thing[1:]))


def piece_by_words(debate, lot):
    """The piece of a lot, cut out."""
    pairs = debate.objections()
    ins = sorted({one for one, other in pairs if one not in lot and other in lot})
    outs = sorted({one for one, other in pairs if one in lot and other not in lot})
    return Piece(lot, ins, [(one, other) for one, other in pairs if other in lot], outs)


def alike_by_words(debate, lot, other, way):
    one, two = piece_by_words(debate, list(lot)), piece_by_words(debate, list(other))
    if [len(one.parts()[at]) for at in (1, 3)] != [len(two.parts()[at]) for at in (1, 3)]:
        return None
    return table_by_words(one, way) == table_by_words(two, way)


def sure_by_words(debate):
    held = lots_by_words(debate, "held")
    some = {name for lot in held for name in lot}
    sure = [lot for lot in held if not any(objects(debate, some, member) for member in lot)]
    return {name for lot in sure for name in lot}


def answer(debate, owners, question):
    """What is asked, straight from the words of the earlier sections."""
    kind = question[0]
    if kind == "stands":
        return stands_by_words(debate, *question[1:])
    if kind == "lots":
        return len(lots_by_words(debate, question[1]))
    if kind == "label":
        return least_by_words(debate)[question[1]]
    if kind == "rank":
        return ranks_by_words(debate).get(question[1])
    if kind == "sure":
        return question[1] in sure_by_words(debate)
    if kind == "won":
        return len([name for name in lots_by_words(debate, "least")[0] if owners[name] == question[1]])
    return alike_by_words(debate, *question[1:])


class Model:
    """The state of a hall: who said what, the objections, the watched questions."""

    def __init__(self, owners=None, pairs=(), asked=()):
        self.owners = dict(owners or {})
        self.pairs = set(pairs)
        self.asked = list(asked)

    def debate(self):
        return Debate(sorted(self.owners), sorted(self.pairs))

    def answers(self):
        debate = self.debate()
        return [answer(debate, self.owners, question) for question, _ in self.asked]

    def watched(self):
        return [(question, told, held) for (question, held), told in zip(self.asked, self.answers())]

    def speakers(self):
        return {
            speaker: sorted(name for name in self.owners if self.owners[name] == speaker)
            for speaker in sorted(set(self.owners.values()))
        }

    def wrong(self, deed):
        """The first error of a deed that is one, but InUse and WouldChange: its kind and what it keeps; else None."""
        word, rest = deed[0], deed[1:]
        if word == "say":
            return (errors.TakenName, {"name": rest[1]}) if rest[1] in self.owners else None
        if word == "leave":
            return None if rest[0] in self.owners.values() else (errors.NoSpeaker, {"name": rest[0]})
        if word in ("object", "yield", "take"):
            for name in rest[1:]:
                if name not in self.owners:
                    return errors.NoStatement, {"thing": name}
            if self.owners[rest[1]] != rest[0]:
                return errors.NotOwn, {"name": rest[1]}
            if word == "object" and rest[1:] in self.pairs:
                return errors.IsObjected, {"one": rest[1], "other": rest[2]}
            if word == "yield" and rest[1:] not in self.pairs:
                return errors.NoObjection, {"one": rest[1], "other": rest[2]}
            return None
        if not is_question(self.debate(), rest[0]):
            return errors.BadQuestion, {"thing": rest[0]}
        known = dict(self.asked)
        question = as_tuples(rest[0])
        if word == "watch" and question in known or word == "hold" and known.get(question):
            return errors.IsWatched, {"thing": rest[0]}
        if word == "free" and question not in known:
            return errors.NotWatched, {"thing": rest[0]}
        return None

    def behind(self, deed):
        """The model behind a deed that is not wrong."""
        word, rest = deed[0], deed[1:]
        told = Model(self.owners, self.pairs, self.asked)
        if word == "say":
            told.owners[rest[1]] = rest[0]
        elif word == "object":
            told.pairs.add(rest[1:])
        elif word == "yield":
            told.pairs.remove(rest[1:])
        elif word in ("take", "leave"):
            gone = [rest[1]] if word == "take" else [name for name in self.owners if self.owners[name] == rest[0]]
            told.owners = {name: speaker for name, speaker in self.owners.items() if name not in gone}
            told.pairs = {pair for pair in self.pairs if not set(pair) & set(gone)}
        else:
            question = as_tuples(rest[0])
            if word == "free":
                told.asked = [row for row in self.asked if row[0] != question]
            elif question in dict(self.asked):
                told.asked = [(one, held or one == question) for one, held in self.asked]
            else:
                told.asked.append((question, word == "hold"))
        return told

    def changes(self, told):
        """The triples of what is answered otherwise, or the question that is none any more."""
        if told.asked != self.asked:
            return []
        return [
            (question, ahead, behind)
            for (question, _), ahead, behind in zip(self.asked, self.answers(), told.answers()) if ahead != behind
        ]

    def used(self, told):
        """The first watched question that is none any more, None if there is none."""
        debate = told.debate()
        return next((question for question, _ in self.asked if not is_question(debate, question)), None)

    def told(self, deed, would=False):
        """What do or would tell of a deed: (error, kept, None) or (None, changes, model)."""
        wrong = self.wrong(deed)
        if wrong is not None:
            return wrong + (None,)
        behind = self.behind(deed)
        used = self.used(behind)
        if used is not None:
            return errors.InUse, {"question": used}, None
        changes = self.changes(behind)
        held = [question for question, _, _ in changes if dict(self.asked)[question]]
        if held and not would:
            return errors.WouldChange, {"question": held[0]}, None
        return None, changes, behind

    def helps(self, speaker, statement):
        """The deeds that help, by going through all."""
        names = sorted(self.owners)
        deeds = [(word, speaker, one, other) for word in ("object", "yield") for one in names for other in names]
        deeds += [("take", speaker, name) for name in names]
        found = []
        for deed in sorted(deeds):
            wrong, _, behind = self.told(deed)
            if wrong is None and statement in behind.owners and statement in lots_by_words(behind.debate(), "least")[0]:
                found.append(deed)
        return found

    def text(self):
        lines = [f"say {speaker} {name}" for speaker, name in sorted((one, two) for two, one in self.owners.items())]
        lines += [f"object {one} {other}" for one, other in sorted(self.pairs)]
        for question, held in self.asked:
            parts = [part if isinstance(part, str) else ",".join(part) or "-" for part in question]
            lines.append(("hold " if held else "watch ") + " ".join(parts))
        return "".join(line + "\n" for line in lines)


def drawn_question(draw, names):
    """A question about some names, or what nearly is one."""
    lots = subsets(names[:3])
    kind = draw.choice(["stands", "lots", "label", "rank", "sure", "won", "alike", "alike"])
    name = draw.choice(names)
    if kind == "stands":
        return (kind, draw.choice(WAYS), name, draw.choice(HOWS))
    if kind == "lots":
        return [kind, draw.choice(WAYS)]
    if kind == "won":
        return (kind, draw.choice(["x", "y", "z"]))
    if kind == "alike":
        return (kind, tuple(draw.choice(lots)), draw.choice(lots), draw.choice(TABLE_WAYS))
    return (kind, name)


def drawn_deed(draw, model, names):
    """A deed, drawn; those that can be done are likelier."""
    speaker = draw.choice(["x", "x", "y", "z"])
    one, other = draw.choice(names), draw.choice(names)
    own = [name for name in model.owners if model.owners[name] == speaker]
    if own and draw.random() < 0.8:
        one = draw.choice(own)
    word = draw.choice(["say"] * 4 + ["object"] * 6 + ["yield", "take", "leave"] + ["watch"] * 2 + ["hold", "free"])
    if word == "yield" and model.pairs and draw.random() < 0.7:
        one, other = draw.choice(sorted(model.pairs))
        speaker = model.owners[one]
    if word == "say":
        return [word, speaker, draw.choice(names)]
    if word in ("object", "yield"):
        return (word, speaker, one, other)
    if word == "take":
        return (word, speaker, one)
    if word == "leave":
        return (word, speaker)
    if word == "free" and model.asked and draw.random() < 0.7:
        return (word, draw.choice(model.asked)[0])
    return (word, drawn_question(draw, names))
