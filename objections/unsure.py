"""Debates of which some statements and some objections may lack."""

from objections.checks import first_wrong, pair_key
from objections.debates import Debate, full_mask, mask_at
from objections.errors import BadDebate, BadObjections, BadTruth, NoThing
from objections.families import lots_among
from objections.lotmasks import check_lot
from objections.otherdebates import cut_at
from objections.things import Thing


class Unsure(Thing):
    """A debate with the statements and the objections that may lack of it; it never changes."""

    def __init__(self, debate, maybe, perhaps):
        if not isinstance(debate, Debate):
            raise BadDebate(debate)
        check_lot(debate.statements(), maybe)
        index = wrong_objection(debate, perhaps)
        if index is not None:
            raise BadObjections(index)
        self._full = debate
        self._maybe = sorted(maybe)
        self._perhaps = sorted([(one, other) for one, other in perhaps])

    def full(self):
        return self._full

    def maybe(self):
        return list(self._maybe)

    def perhaps(self):
        return list(self._perhaps)

    def things(self):
        return self._maybe + self._perhaps

    def __eq__(self, other):
        if not isinstance(other, Unsure):
            return False
        return self.full() == other.full() and self.things() == other.things()


def wrong_objection(debate, things):
    """The index of the first thing that is no objection of a debate, or stood before; 0 for no list, else None."""
    pairs = debate.objections()
    return first_wrong(things, lambda thing: objection_key(thing, pairs))


def objection_key(thing, pairs):
    """One of some pairs of names as a tuple, None for any other thing."""
    pair = pair_key(thing, [one for one, _ in pairs], [other for _, other in pairs])
    return pair if pair in pairs else None


def thing_key(unsure, thing):
    """A statement or an objection that may lack, None for any other object."""
    if isinstance(thing, str):
        return thing if thing in unsure.maybe() else None
    return objection_key(thing, unsure.perhaps())


def fillings(unsure):
    """The list of all fillings, ascending by statements, then by objections."""
    rows = []
    for some in lots_among(unsure.maybe()):
        kept = [name for name in unsure.full().statements() if name in some or name not in unsure.maybe()]
        pairs = pairs_between(unsure, kept)
        for gone in lots_among([pair for pair in pairs if pair in unsure.perhaps()]):
            rows.append((kept, [pair for pair in pairs if pair not in gone]))
    return [Debate(kept, pairs) for kept, pairs in sorted(rows)]


def pairs_between(unsure, names):
    """The objections of the full debate between some statements."""
    return [(one, other) for one, other in unsure.full().objections() if one in names and other in names]


def is_filling(unsure, thing):
    """Whether any object is a filling."""
    if not isinstance(thing, Debate):
        return False
    names = thing.statements()
    known = unsure.full().statements()
    if not all([name in known for name in names]):
        return False
    if not all([name in names or name in unsure.maybe() for name in known]):
        return False
    between = pairs_between(unsure, names)
    pairs = thing.objections()
    return all([pair in between for pair in pairs]) and all([
        pair in pairs or pair in unsure.perhaps() for pair in between
    ])


def learned(unsure, thing, there):
    """The unsure debate whose fillings are just those that have the thing, or have it not."""
    key = thing_key(unsure, thing)
    if key is None:
        raise NoThing(thing)
    if not isinstance(there, bool):
        raise BadTruth(there)
    gone = [] if there else [key]
    told = [key, key[0], key[1]] if there and isinstance(key, tuple) else [key]
    full = lacking(unsure.full(), gone)
    maybe = [name for name in unsure.maybe() if name not in told]
    pairs = full.objections()
    return Unsure(full, maybe, [pair for pair in unsure.perhaps() if pair not in told and pair in pairs])


def lacking(debate, gone):
    """The debate without some statements and their objections, and without some objections."""
    others = full_mask(debate) & ~mask_at(debate, [thing for thing in gone if isinstance(thing, str)])
    kept = cut_at(debate, others)
    return Debate(kept.statements(), [pair for pair in kept.objections() if pair not in gone])
