"""Rules with exceptions: claims that hold by others, unless still others do."""

from objections.checks import is_list, is_word, wrong_name, wrong_word
from objections.errors import BadAbsent, BadClaims, BadRules
from objections.things import Thing


class Rules(Thing):
    """Claims, and rules between them; it never changes."""

    def __init__(self, claims, rules):
        index = wrong_name(claims)
        if index is not None:
            raise BadClaims(index)
        self._claims = sorted(claims)
        self._triples = told_rules(self._claims, rules)

    def claims(self):
        return list(self._claims)

    def triples(self):
        return list(self._triples)

    def __eq__(self, other):
        if not isinstance(other, Rules):
            return False
        return self.claims() == other.claims() and self.triples() == other.triples()


def told_rules(claims, rules):
    """The rules in their order, body and unless ascending tuples, or BadRules."""
    if not is_list(rules):
        raise BadRules(0)
    told = []
    for index, thing in enumerate(rules):
        if not is_rule(claims, thing):
            raise BadRules(index)
        head, body, unless = thing
        told.append((head, tuple(sorted(body)), tuple(sorted(unless))))
    return told


def is_rule(claims, thing):
    """Whether any object is a triple of a claim and two lists of unlike claims."""
    if not is_list(thing) or len(thing) != 3:
        return False
    head, body, unless = thing
    return is_word(head, claims) and wrong_word(body, claims) is None and wrong_word(unless, claims) is None


def follows(known, absent):
    """The ascending list of the claims that come by rules whose unless are all absent."""
    index = wrong_word(absent, known.claims())
    if index is not None:
        raise BadAbsent(index)
    free = [(head, body) for head, body, unless in known.triples() if all([claim in absent for claim in unless])]
    come = {}
    further = heads_by(free, come)
    while further:
        for head in further:
            come[head] = True
        further = heads_by(free, come)
    return sorted(come)


def heads_by(rules, come):
    """The heads that have not come yet of rules all of whose body has."""
    return [head for head, body in rules if head not in come and all([claim in come for claim in body])]


def with_rules(known, rules):
    """The rules with further ones behind its own."""
    return Rules(known.claims(), known.triples() + told_rules(known.claims(), rules))
