"""Verdicts, records and least twins, done step by step from the words of section 14."""

import functools
import itertools
import random

from objections.debates import Debate
from tests.helper import all_debates, cut, least_by_words, subsets

WORDS = ["in", "out", "undecided"]


@functools.lru_cache(maxsize=None)
def labels_of_pairs(names, pairs):
    return least_by_words(Debate(names, pairs))


def verdict_by_words(debate, table):
    part = cut(debate, sorted(table))
    return dict(labels_of_pairs(tuple(part.statements()), tuple(part.objections())))


def tables_of(names):
    """All tables of some names, smaller ones first."""
    return sorted([lot for lot in subsets(sorted(names)) if lot], key=len)


def all_verdicts(debate, most):
    """The verdicts on all tables of at most so many."""
    return [verdict_by_words(debate, table) for table in tables_of(debate.statements()) if len(table) <= most]


@functools.lru_cache(maxsize=None)
def twin_groups(names):
    """The lists of debates of some names that are twins of one another, those with fewer objections first."""
    groups = {}
    for debate in sorted(all_debates(list(names)), key=lambda debate: (len(debate.objections()), debate.objections())):
        groups.setdefault(repr(all_verdicts(debate, 9)), []).append(debate)
    return list(groups.values())


def fits_by_words(debate, records):
    return all(verdict_by_words(debate, table) == dict(told) for table, told in records)


def fitting_groups(names, records):
    """The groups of twins that fit, those with fewer objections first."""
    return [group for group in twin_groups(tuple(sorted(names))) if fits_by_words(group[0], records)]


def drawn_records(names, many, seed):
    """So many records by one debate, drawn alike each time."""
    draw = random.Random(seed)
    debate = draw.choice(all_debates(sorted(names)))
    found = []
    for _ in range(many):
        table = draw.sample(names, draw.randint(1, len(names)))
        told = verdict_by_words(debate, table)
        found.append((table, {name: told[name] for name in table}))
    return found


def odd_records(names, many, seed):
    """So many records of any words, drawn alike each time, and some by a debate."""
    draw = random.Random(seed)
    found = drawn_records(names, many, seed)
    for _ in range(many):
        table = draw.sample(names, draw.randint(1, len(names)))
        found.append((table, {name: draw.choice(WORDS) for name in table}))
    draw.shuffle(found)
    return found


def not_records():
    """What is no record of tables of a and b."""
    right = {"a": "in", "b": "out"}
    return [
        (["a", "b"], right, 0), (["a", "b"],), ([], {}), (["a", "a"], {"a": "in"}),
        (["a", "c"], {"a": "in", "c": "in"}), (["a"], right), (["a", "b"], {"a": "in"}),
        (["a"], {"a": "gone"}), (["a"], {"a": True}), (["a"], {"a": ["in"]}),
        (["a"], [("a", "in")]), (["a"], (("a", "in"),)), ("a", {"a": "in"}), (["a"], "in"), (["a"], None), (None, {}),
        {"a": "in"}, ({"a": 1}, {"a": "in"}), (["a"], {"A": "in"}), ([["a"]], {"a": "in"}), (["a"], {"b": "in"}),
    ]


def row_of(many):
    """A debate of so many statements, each objecting to the next one, the first one to itself, too."""
    names = [f"n{at:02d}" for at in range(many)]
    return Debate(names, [(names[at], names[at + 1]) for at in range(many - 1)] + [(names[0], names[0])])


def pairs_of_names(names):
    return list(itertools.product(sorted(names), repeat=2))
