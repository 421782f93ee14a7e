"""Lots of places as integers: the bit of a place is set if the lot has it."""


def first_place(mask):
    """The first place of a mask that has some."""
    return (mask & -mask).bit_length() - 1


def places_in(mask):
    """The places of a mask, ascending."""
    if mask == 0:
        return []
    return [place for place in range(first_place(mask), mask.bit_length()) if mask >> place & 1]


def count_of(mask):
    """How many places a mask has."""
    return len(places_in(mask))


def lies_in(one, other):
    """Whether other has all places of one."""
    return one & ~other == 0


def parts_within(mask):
    """All masks that lie in a mask."""
    parts = [0]
    for place in places_in(mask):
        parts = parts + [part | (1 << place) for part in parts]
    return parts


def union_at(masks, places):
    """All places together of the masks that stand at the places."""
    union = 0
    while places:
        bit = places & -places
        union = union | masks[bit.bit_length() - 1]
        places = places ^ bit
    return union


def reached_from(start, steps, within):
    """The start, and all places to which steps lead from it, one behind another, within a mask."""
    found = start
    new = start
    while new:
        bit = new & -new
        more = steps[bit.bit_length() - 1] & within & ~found
        found = found | more
        new = (new ^ bit) | more
    return found


def topmost(masks):
    """Those of unlike masks that lie in no other one."""
    tops = []
    for mask in sorted(masks, key=count_of, reverse=True):
        if not any([lies_in(mask, top) for top in tops]):
            tops.append(mask)
    return tops
