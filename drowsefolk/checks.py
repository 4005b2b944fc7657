"""Examining arguments by themselves [6], and sets of folk as masks.

A mask is one integer for a set of folk: it has the bit 1 << place for each member, the place counted from 0 in
folk order. The other files reckon with masks and tell them as tuples of names.
"""

from drowsefolk.errors import BadCount, BadName, BadNumber, Repeated, UnknownFolk
from drowsefolk.names import is_name, is_number


def check_number(value, low, high):
    """Refuses a number that is not an integer from low to high."""
    if not is_number(value, low, high):
        raise BadNumber(value)


def check_count(what, number, low, high):
    """Refuses a number of entries that is not from low to high."""
    if not low <= number <= high:
        raise BadCount(what, number)


def check_new_name(name):
    """Refuses a name that has not the form of a name."""
    if not is_name(name):
        raise BadName(name)


def place_in(names, name):
    """The place of the name among the names, from 0; refuses one that is not among them."""
    if name not in names:
        raise UnknownFolk(name)
    return names.index(name)


def mask_of(web, names):
    """The mask of a names argument; refuses an unknown entry and one that came before."""
    mask = 0
    for name in names:
        bit = 1 << place_in(web.names, name)
        if mask & bit > 0:
            raise Repeated(name)
        mask = mask | bit
    return mask


def everybody(web):
    """The mask of all folk of the web."""
    return (1 << len(web.names)) - 1


def without(mask, other):
    """The mask of those of the first who are not in the second."""
    return mask ^ (mask & other)


def positions(mask):
    """The places of the members, ascending."""
    return tuple([place for place in range(mask.bit_length()) if mask >> place & 1 == 1])


def world_order_key(mask):
    """The key by which world order compares two sets [11]."""
    places = positions(mask)
    return (len(places), places)


def told(web, mask):
    """The members as the program tells a set: a tuple of names in folk order."""
    return tuple([web.names[place] for place in positions(mask)])
