"""Debates: statements, and which of them object to which."""

from objections.checks import is_word, wrong_name, wrong_pair
from objections.errors import BadObjections, BadStatements, NoStatement
from objections.masks import places_in
from objections.things import Thing


class Debate(Thing):
    """Statements with the objections between them; it never changes."""

    def __init__(self, statements, objections):
        index = wrong_name(statements)
        if index is not None:
            raise BadStatements(index)
        places = {name: place for place, name in enumerate(sorted(statements))}
        index = wrong_pair(objections, places, places)
        if index is not None:
            raise BadObjections(index)
        self._places = places
        self._objections = sorted([(one, other) for one, other in objections])
        self._against = masks_by_place(places, [(other, one) for one, other in self._objections])
        self._towards = masks_by_place(places, self._objections)

    def statements(self):
        return list(self._places)

    def objections(self):
        return list(self._objections)

    def __len__(self):
        return len(self._places)

    def __eq__(self, other):
        if not isinstance(other, Debate):
            return False
        return self.statements() == other.statements() and self._objections == other._objections


def masks_by_place(places, pairs):
    """For each place the mask of the places that stand second in the pairs in which its name stands first."""
    masks = [0 for _ in places]
    for name, other in pairs:
        masks[places[name]] = masks[places[name]] | (1 << places[other])
    return tuple(masks)


def objectors(debate, statement):
    """The ascending list of the statements that object to this one."""
    return names_at(debate, against(debate)[place_of(debate, statement)])


def objected(debate, statement):
    """The ascending list of the statements to which this one objects."""
    return names_at(debate, towards(debate)[place_of(debate, statement)])


def against(debate):
    """The masks of the objectors, by places."""
    return debate._against


def towards(debate):
    """The masks of what is objected to, by places."""
    return debate._towards


def objects_to(debate, one, other):
    """Whether one place's statement objects to another one's."""
    return debate._towards[one] >> other & 1 == 1


def is_statement(debate, thing):
    """Whether any object is a statement of a debate."""
    return is_word(thing, debate._places)


def check_statement(names, statement):
    """NoStatement for any object that is none of the names of statements."""
    if not is_word(statement, names):
        raise NoStatement(statement)


def place_of(debate, statement):
    """The place of a statement in the ascending list, or NoStatement."""
    check_statement(debate._places, statement)
    return debate._places[statement]


def full_mask(debate):
    """The mask of all statements."""
    return (1 << len(debate)) - 1


def mask_at(debate, names):
    """The mask of a list of statements."""
    mask = 0
    for name in names:
        mask = mask | (1 << debate._places[name])
    return mask


def names_at(debate, mask):
    """The ascending list of the statements of a mask."""
    names = debate.statements()
    return [names[place] for place in places_in(mask)]


def name_at(debate, place):
    """The statement at a place."""
    return debate.statements()[place]
