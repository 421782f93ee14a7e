"""Levels of claims, and the walks along rules that keep claims from having one, or readings from being settled."""

from objections.checks import is_list


def levels(known):
    """The dict from claims to their least levels, None if there are none."""
    numbers = {claim: 0 for claim in known.claims()}
    # Without a ring over unless no level is above the number of claims less one.
    for _ in known.claims():
        numbers = raised_levels(known, numbers)
    return numbers if raised_levels(known, numbers) == numbers else None


def raised_levels(known, numbers):
    """The numbers, raised where a rule asks a greater one of its head."""
    higher = {claim: [number] for claim, number in numbers.items()}
    for head, body, unless in known.triples():
        higher[head].extend([numbers[claim] for claim in body] + [numbers[claim] + 1 for claim in unless])
    return {claim: max(row) for claim, row in higher.items()}


def links_of(known):
    """The ascending list of the unlike triples (claim, word, next) of which walks are made."""
    links = [(head, "body", claim) for head, body, _ in known.triples() for claim in body]
    links.extend([(head, "unless", claim) for head, _, unless in known.triples() for claim in unless])
    return sorted(set(links))


def is_walk(known, thing):
    """Whether any object is a walk."""
    if not is_list(thing) or len(thing) == 0:
        return False
    links = links_of(known)
    if not all([is_list(part) and tuple(part) in links for part in thing]):
        return False
    return all([thing[turn - 1][2] == part[0] for turn, part in enumerate(thing)])


def unless_walk(known):
    """A shortest walk with an unless, None if there is none."""
    return shortest_walk(known, False)


def odd_walk(known):
    """A shortest walk with an odd number of unless, None if there is none."""
    return shortest_walk(known, True)


def shortest_walk(known, is_odd):
    """A shortest walk of those that come back with a sign of 1."""
    links = links_of(known)
    walks = [walk_from(links, claim, is_odd) for claim in known.claims()]
    found = [walk for walk in walks if walk]
    return min(found, key=len) if found else None


def walk_from(links, start, is_odd):
    """A shortest such walk from a claim back to it, [] if there is none."""
    ahead = {(start, 0): None}
    places = [(start, 0)]
    while places and (start, 1) not in ahead:
        further = []
        for claim, sign in places:
            for link in links:
                place = (link[2], sign_behind(sign, link[1], is_odd))
                if link[0] == claim and place not in ahead:
                    ahead[place] = ((claim, sign), link)
                    further.append(place)
        places = further
    walk = []
    step = ahead.get((start, 1))
    while step is not None:
        place, link = step
        walk.append(link)
        step = ahead[place]
    return walk[::-1]


def sign_behind(sign, word, is_odd):
    """The sign of a walk behind a word: 1 if it has an odd number of unless, or if it has some."""
    if word == "body":
        return sign
    return 1 - sign if is_odd else 1
