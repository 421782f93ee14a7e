"""Groups that object together, and needs: labels by them, and debates that are plain and have the same labels."""

from objections.checks import first_wrong, is_list, is_word, wrong_name, wrong_pair, wrong_word
from objections.errors import BadGroups, BadNeeds, BadStatements
from objections.masks import lies_in
from objections.plaindebates import plain_debate
from objections.rulemarks import is_labelling_by, labellings_by
from objections.things import Thing


class Grouped(Thing):
    """Statements with groups of them that object, and with what they need; it never changes."""

    def __init__(self, statements, objections, needs):
        index = wrong_name(statements)
        if index is not None:
            raise BadStatements(index)
        index = wrong_group(objections, statements)
        if index is not None:
            raise BadGroups(index)
        index = wrong_pair(needs, statements, statements)
        if index is not None:
            raise BadNeeds(index)
        self._statements = sorted(statements)
        self._objections = sorted([(tuple(sorted(group)), other) for group, other in objections])
        self._needs = sorted([(one, other) for one, other in needs])

    def parts(self):
        return (list(self._statements), list(self._objections), list(self._needs))

    def __eq__(self, other):
        return isinstance(other, Grouped) and self.parts() == other.parts()


def wrong_group(things, statements):
    """The index of the first thing that is no objection of a group, or stood before; 0 for no list, else None."""
    return first_wrong(things, lambda thing: group_key(thing, statements))


def group_key(thing, statements):
    """A pair of a group and a statement, the group an ascending tuple, None for any other thing."""
    if not is_list(thing) or len(thing) != 2:
        return None
    group, other = thing
    if wrong_word(group, statements) is not None or not is_word(other, statements):
        return None
    return (tuple(sorted(group)), other)


def grouped_of(debate):
    """A group of one for each objection, and no needs."""
    return Grouped(debate.statements(), [([one], other) for one, other in debate.objections()], [])


def rule_of(grouped):
    """The function from marks to those that follow by groups and needs."""
    statements, objections, needs = grouped.parts()
    bits = {name: 1 << place for place, name in enumerate(statements)}
    groups = {name: [] for name in statements}
    for members, target in objections:
        groups[target].append(sum([bits[member] for member in members]))
    needed = {name: sum([bits[other] for one, other in needs if one == name]) for name in statements}

    def rule(marks):
        ins, outs = marks
        more = 0
        others = 0
        for name in statements:
            if needed[name] & outs or any([lies_in(group, ins) for group in groups[name]]):
                others = others | bits[name]
            elif lies_in(needed[name], ins) and all([group & outs for group in groups[name]]):
                more = more | bits[name]
        return (more, others)

    return rule


def is_grouped_labelling(grouped, thing):
    """Whether any object is a labelling by groups and needs."""
    return is_labelling_by(grouped.parts()[0], rule_of(grouped), thing)


def grouped_labellings(grouped, way):
    """The list of the labellings of the way, dicts, as the lists of their labels compare."""
    return labellings_by(grouped.parts()[0], rule_of(grouped), way)


def made_plain(grouped):
    """A debate with further statements that has the same labels, and the dict of what these further ones say."""
    statements, objections, needs = grouped.parts()
    conditions = [((group, ()), other) for group, other in objections]
    return plain_debate(statements, conditions, needs, lambda ins, _: ("group", ins))
