"""Fewest questions of what is there in an unsure debate, until a judge's verdict is known.

Fillings are told as masks here: the bit of a place is set if the filling at this place of the list is meant.
"""

from objections.checks import is_list, is_number
from objections.debates import is_statement
from objections.errors import BadNumber, IsEnough, NoString
from objections.labels import check_how, stands
from objections.lotmasks import WAYS, check_way
from objections.masks import first_place, places_in
from objections.unsure import fillings, thing_key


def judge_by(way, statement, how):
    """The judge that tells whether a statement stands so, or is gone."""
    check_way(way, WAYS)
    check_how(how)

    def judge(debate):
        if not is_statement(debate, statement):
            return "gone"
        return "yes" if stands(debate, way, statement, how) else "no"

    return judge


def judged(unsure, judge):
    """The list of what a judge tells of the fillings."""
    return verdicts_of(fillings(unsure), judge)


def verdicts_of(found, judge):
    """What a judge tells of some fillings, each asked once, or NoString."""
    verdicts = []
    for filling in found:
        told = judge(filling)
        if not isinstance(told, str):
            raise NoString(told)
        verdicts.append(told)
    return verdicts


def splits_of(unsure, found):
    """The pairs of each thing and the mask of the fillings that have it."""
    return [
        (thing, sum([1 << place for place, filling in enumerate(found) if has_thing(filling, thing)]))
        for thing in unsure.things()
    ]


def has_thing(filling, thing):
    """Whether a statement or an objection is there."""
    return thing in (filling.statements() if isinstance(thing, str) else filling.objections())


def is_told(mask, verdicts):
    """Whether the same is told of all fillings of a mask that has some."""
    return all([verdicts[place] == verdicts[first_place(mask)] for place in places_in(mask)])


def depth_of(mask, splits, verdicts, known):
    """The least depth of right trees for the fillings of a mask that has some; known keeps what was worked out."""
    if mask not in known:
        known[mask] = 0
        if not is_told(mask, verdicts):
            known[mask] = min([depth for depth, _, _, _ in first_questions(mask, splits, verdicts, known)])
    return known[mask]


def first_questions(mask, splits, verdicts, known):
    """For each thing that some fillings of a mask have and some have not: the least depth behind it, it, and both."""
    return [
        (1 + max(depth_of(mask & has, splits, verdicts, known), depth_of(mask & ~has, splits, verdicts, known)),
         thing, mask & has, mask & ~has)
        for thing, has in splits if mask & has and mask & ~has
    ]


def fewest_questions(unsure, judge):
    """The least depth of right trees."""
    found = fillings(unsure)
    verdicts = verdicts_of(found, judge)
    return depth_of((1 << len(found)) - 1, splits_of(unsure, found), verdicts, {})


def question_tree(unsure, judge):
    """A right tree of least depth."""
    found = fillings(unsure)
    verdicts = verdicts_of(found, judge)
    return tree_for((1 << len(found)) - 1, splits_of(unsure, found), verdicts, {})


def tree_for(mask, splits, verdicts, known):
    """A right tree of least depth for the fillings of a mask that has some."""
    least = depth_of(mask, splits, verdicts, known)
    if least == 0:
        return ("tell", verdicts[first_place(mask)])
    asked = [row for row in first_questions(mask, splits, verdicts, known) if row[0] == least]
    _, thing, there, lacking = asked[0]
    return ("ask", thing, tree_for(there, splits, verdicts, known), tree_for(lacking, splits, verdicts, known))


def is_question_tree(unsure, judge, many, thing):
    """Whether any object is a right tree of at most such a depth."""
    found = fillings(unsure)
    verdicts = verdicts_of(found, judge)
    if not is_number(many):
        raise BadNumber(many)
    tree = read_tree(unsure, thing)
    return tree is not None and is_right(tree, list(zip(found, verdicts)), many)


def read_tree(unsure, thing):
    """Any object as a tree, of tuples throughout, None if it is none."""
    if not is_list(thing) or len(thing) not in (2, 4):
        return None
    step = read_step(unsure, thing[:2])
    if step is None or step[0] != ("tell" if len(thing) == 2 else "ask"):
        return None
    trees = [read_tree(unsure, part) for part in thing[2:]]
    return None if None in trees else step + tuple(trees)


def read_step(unsure, thing):
    """("ask", thing) or ("tell", string) as a tuple, None for any other object."""
    if not is_list(thing) or len(thing) != 2 or not isinstance(thing[0], str):
        return None
    if thing[0] == "tell" and isinstance(thing[1], str):
        return ("tell", thing[1])
    key = thing_key(unsure, thing[1])
    return ("ask", key) if thing[0] == "ask" and key is not None else None


def is_right(tree, cases, many):
    """Whether a tree tells of each of some pairs (filling, verdict) the latter, by so many questions at most."""
    if not cases:
        return True
    if tree[0] == "tell":
        return all([verdict == tree[1] for _, verdict in cases])
    if many == 0:
        return False
    there = [case for case in cases if has_thing(case[0], tree[1])]
    lacking = [case for case in cases if not has_thing(case[0], tree[1])]
    return is_right(tree[2], there, many - 1) and is_right(tree[3], lacking, many - 1)


def break_asker(unsure, judge, asker, many):
    """How an asker fails that has fewer questions than are needed: its pairs, why, and a filling."""
    found = fillings(unsure)
    verdicts = verdicts_of(found, judge)
    if not is_number(many):
        raise BadNumber(many)
    splits = splits_of(unsure, found)
    known = {0: -1}
    left = (1 << len(found)) - 1
    if many >= depth_of(left, splits, verdicts, known):
        raise IsEnough()
    pairs = []
    while True:
        step = read_step(unsure, asker(tuple(pairs)))
        kind = how_failed(step, many - len(pairs))
        if kind == "wrong":
            left = sum([1 << place for place in places_in(left) if verdicts[place] != step[1]])
        if kind is not None:
            return (pairs, kind, found[first_place(left)])
        has = dict(splits)[step[1]]
        answer = depth_of(left & has, splits, verdicts, known) >= depth_of(left & ~has, splits, verdicts, known)
        pairs.append((step[1], answer))
        left = left & (has if answer else ~has)


def how_failed(step, many):
    """How an asker fails by what it tells with so many questions left, None if it may ask this."""
    if step is None:
        return "odd"
    if step[0] == "tell":
        return "wrong"
    return "much" if many == 0 else None
