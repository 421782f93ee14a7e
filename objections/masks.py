"""Lots of places as integers: the bit of a place is set if the lot has it."""


def places_in(mask):
    """The places of a mask, ascending."""
    return [place for place in range(mask.bit_length()) if mask >> place & 1]


def count_of(mask):
    """How many places a mask has."""
    return len(places_in(mask))


def lies_in(one, other):
    """Whether other has all places of one."""
    return one & ~other == 0


def union_at(masks, places):
    """All places together of the masks that stand at the places."""
    union = 0
    for place in places_in(places):
        union = union | masks[place]
    return union


def topmost(masks):
    """Those of unlike masks that lie in no other one."""
    tops = []
    for mask in sorted(masks, key=count_of, reverse=True):
        if not any([lies_in(mask, top) for top in tops]):
            tops.append(mask)
    return tops
