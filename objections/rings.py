"""Rings of statements, each of which objects to the next one, the last one to the first."""

from objections.checks import wrong_word
from objections.debates import against, name_at, objects_to
from objections.masks import places_in


def is_ring(debate, thing):
    """Whether any object is a list of unlike statements that is a ring."""
    names = debate.statements()
    if wrong_word(thing, names) is not None or len(thing) == 0:
        return False
    places = [names.index(name) for name in thing]
    return all([objects_to(debate, places[turn - 1], place) for turn, place in enumerate(places)])


def ring_within(debate, mask):
    """A ring of statements of a mask, None if there is none."""
    left = lasting(debate, mask)
    if left == 0:
        return None
    # Who is left has an objector that is: going from each to such a one must come back.
    walk = []
    place = places_in(left)[0]
    while place not in walk:
        walk.append(place)
        place = places_in(against(debate)[place] & left)[0]
    ring = walk[walk.index(place):]
    return [name_at(debate, member) for member in reversed(ring)]


def lasting(debate, mask):
    """Who is left of a mask when again and again those go who have no objector among who is left."""
    left = mask
    gone = [place for place in places_in(left) if not against(debate)[place] & left]
    while gone:
        left = left & ~sum([1 << place for place in gone])
        gone = [place for place in places_in(left) if not against(debate)[place] & left]
    return left
