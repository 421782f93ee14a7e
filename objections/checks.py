"""What callers pass: lists, names and functions, told from any other objects."""

from objections.errors import DebateError
from objections.things import Thing

LETTERS = "abcdefghijklmnopqrstuvwxyz"
SIGNS = "abcdefghijklmnopqrstuvwxyz0123456789"
LONGEST_NAME = 12


def is_list(thing):
    """Whether a thing is a list, or a tuple that is passed for one."""
    return isinstance(thing, (list, tuple))


def is_name(thing):
    """Whether a thing is a name."""
    if not isinstance(thing, str) or not 1 <= len(thing) <= LONGEST_NAME:
        return False
    return thing[0] in LETTERS and all([sign in SIGNS for sign in thing])


def is_word(thing, words):
    """Whether a thing is one of some strings."""
    return isinstance(thing, str) and thing in words


def is_integer(thing):
    """Whether a thing is an integer, which truths are not."""
    return isinstance(thing, int) and not isinstance(thing, bool)


def is_number(thing):
    """Whether a thing is an integer from 0 on."""
    return is_integer(thing) and thing >= 0


def is_index(thing, many):
    """Whether a thing is an integer from 0 on, below so many."""
    return is_number(thing) and thing < many


def is_function(thing):
    """Whether a thing is a function: all that callers may pass besides are of these kinds."""
    return thing is not None and not isinstance(thing, (int, str, list, tuple, dict, Thing, DebateError))


def first_wrong(things, key_of):
    """The index of the first thing without a key, or with one that stood before; 0 for no list, else None."""
    if not is_list(things):
        return 0
    seen = {}
    for index, thing in enumerate(things):
        key = key_of(thing)
        if key is None or key in seen:
            return index
        seen[key] = True
    return None


def name_key(thing):
    """A name itself, None for any other thing."""
    return thing if is_name(thing) else None


def word_key(thing, words):
    """One of some strings itself, None for any other thing."""
    return thing if is_word(thing, words) else None


def pair_key(thing, ones, others):
    """A pair of one of ones and one of others as a tuple, None for any other thing."""
    if not is_list(thing) or len(thing) != 2:
        return None
    one, other = thing
    if not is_word(one, ones) or not is_word(other, others):
        return None
    return (one, other)


def names_key(thing):
    """The names of a list of unlike names as an ascending tuple, None for any other thing."""
    if first_wrong(thing, name_key) is not None:
        return None
    return tuple(sorted(thing))


def wrong_name(things):
    """The index of the first thing that is no name, or stood before; 0 for no list, None if there is none."""
    return first_wrong(things, name_key)


def wrong_word(things, words):
    """Likewise of the first thing that is none of some strings, or stood before."""
    return first_wrong(things, lambda thing: word_key(thing, words))


def wrong_pair(things, ones, others):
    """Likewise of the first thing that is no pair of one of ones and one of others, or stood before."""
    return first_wrong(things, lambda thing: pair_key(thing, ones, others))
