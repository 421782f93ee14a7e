"""Many small rules, and what section 11 says of them, done step by step."""

import itertools
import random

from objections.rules import Rules
from tests.helper import label_rows, subsets

EIGHT = [f"c{at}" for at in range(8)]
K_TRIPLES = [("a", [], ["b"]), ("b", [], ["a"]), ("c", ["a"], []), ("c", ["b"], [])]
K = Rules(["a", "b", "c"], K_TRIPLES)
ODD = Rules(["a"], [("a", [], ["a"])])
WAYS = ["whole", "least", "greatest", "settled"]


def follows_by_words(known, absent):
    """What follows, straight from the words."""
    come = set()
    while True:
        further = come | {
            head for head, body, unless in known.triples() if set(unless) <= set(absent) and set(body) <= come
        }
        if further == come:
            return sorted(come)
        come = further


def is_reading_by_words(known, labels):
    told = {word: [claim for claim in labels if labels[claim] == word] for word in ("in", "out", "undecided")}
    possible = sorted(told["in"] + told["undecided"])
    return told["in"] == follows_by_words(known, told["out"]) and (
        possible == follows_by_words(known, told["out"] + told["undecided"]))


def readings_by_words(known, way):
    """The readings of a way, straight from the words, by going through all labels."""
    names = known.claims()
    rows = [dict(zip(names, row)) for row in label_rows(len(names))]
    found = [labels for labels in rows if is_reading_by_words(known, labels)]
    if way == "settled":
        return [labels for labels in found if "undecided" not in labels.values()]
    if way == "greatest":
        lots = [{claim for claim in names if labels[claim] == "in"} for labels in found]
        return [labels for labels, lot in zip(found, lots) if not any(lot < other for other in lots)]
    if way == "least":
        common = {claim: {labels[claim] for labels in found} for claim in names}
        least = {
            claim: list(told)[0] if len(told) == 1 and told != {"undecided"} else "undecided"
            for claim, told in common.items()
        }
        return [labels for labels in found if labels == least]
    return found


def all_triples(claims):
    """Each rule between some claims."""
    return list(itertools.product(claims, subsets(claims), subsets(claims)))


def small_rules():
    """All rules of one claim, all lists of at most two rules of two claims, and some with none."""
    found = [Rules([], []), Rules(["a", "b"], [])]
    found += [Rules(["a"], row) for row in subsets(all_triples(["a"]))]
    for many in (1, 2):
        found += [Rules(["a", "b"], row) for row in itertools.combinations(all_triples(["a", "b"]), many)]
    return found


def drawn_rules(many, size, rules, seed):
    """So many rules between so many claims, drawn alike each time; some rules stand twice."""
    draw = random.Random(seed)
    names = list("abcdefgh")[:size]
    found = []
    for _ in range(many):
        rows = []
        for _ in range(draw.randint(1, rules)):
            body = draw.sample(names, draw.choice([0, 0, 1, 1, 2]))
            unless = draw.sample(names, draw.choice([0, 1, 1, 1, 2]))
            rows.append((draw.choice(names), body, unless))
        if draw.random() < 0.2:
            rows.append(rows[0])
        found.append(Rules(names, rows))
    return found


def many_rules():
    """Rules of all these sizes."""
    return small_rules()[::4] + drawn_rules(60, 3, 6, 300) + drawn_rules(30, 4, 9, 301) + drawn_rules(6, 5, 9, 302)


def thirty_rules(names):
    """Thirty rules between all of some claims, six of them in unless, drawn alike each time."""
    draw = random.Random(len(names))
    some = names[:6]
    rules = [(some[at], [], [some[(at + 1) % len(some)]]) for at in range(len(some))]
    while len(rules) < 30:
        body = draw.sample(names, draw.choice([0, 1, 1, 2, 2]))
        rules.append((draw.choice(names), body, draw.sample(some, draw.choice([1, 1, 2]))))
    return Rules(names, rules)


def ring_of_unless(many):
    """So many claims, each of which holds unless the next one does."""
    names = EIGHT[:many]
    return Rules(names, [(name, [], [names[(at + 1) % many]]) for at, name in enumerate(names)])
