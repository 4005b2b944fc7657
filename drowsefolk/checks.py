"""Examining arguments by themselves [6] and limits [5], parts of papers [7], and sets of folk as masks.

A mask is one integer for a set of folk: it has the bit 1 << place for each member, the place counted from 0 in
folk order. The other files reckon with masks and tell them as tuples of names.
"""

from drowsefolk.errors import BadCount, BadName, BadNumber, OtherFolk, Repeated, TooLarge, UnknownFolk
from drowsefolk.names import is_name, is_number


def check_number(value, low, high):
    """Refuses a number that is not an integer from low to high."""
    if not is_number(value, low, high):
        raise BadNumber(value)


def check_count(what, number, low, high):
    """Refuses a number of entries that is not from low to high."""
    if not low <= number <= high:
        raise BadCount(what, number)


def check_size(what, number, limit):
    """Refuses work on more than the limit."""
    if number > limit:
        raise TooLarge(what, limit)


def check_new_name(name):
    """Refuses a name that has not the form of a name."""
    if not is_name(name):
        raise BadName(name)


def place_in(names, name):
    """The place of the name among the names, from 0; refuses one that is not among them."""
    if name not in names:
        raise UnknownFolk(name)
    return names.index(name)


def mask_of(web, names):
    """The mask of a names argument; refuses an unknown entry and one that came before."""
    mask = 0
    for name in names:
        bit = 1 << place_in(web.names, name)
        if mask & bit > 0:
            raise Repeated(name)
        mask = mask | bit
    return mask


def paper_mask(web, paper):
    """The mask of a list of names in a paper, or None if one is unknown or stands twice."""
    mask = 0
    for name in paper:
        if name not in web or mask & 1 << place_in(web.names, name) > 0:
            return None
        mask = mask | 1 << place_in(web.names, name)
    return mask


def has_form(paper, word, number):
    """True if the paper has this word in front and so many parts, the word included."""
    return len(paper) == number and paper[0] == word


def first_unlike(names, others):
    """The first place, from 0, at which two rows of names differ or one of them ends; None if they are equal."""
    for place in range(max(len(names), len(others))):
        if names[place:place + 1] != others[place:place + 1]:
            return place
    return None


def check_same_names(names, others):
    """Refuses two rows of names that differ."""
    place = first_unlike(names, others)
    if place is not None:
        raise OtherFolk(place)


def everybody(web):
    """The mask of all folk of the web."""
    return (1 << len(web.names)) - 1


def without(mask, other):
    """The mask of those of the first who are not in the second."""
    return mask ^ (mask & other)


def positions(mask):
    """The places of the members, ascending."""
    return tuple([place for place in range(mask.bit_length()) if mask >> place & 1 == 1])


def mask_or_all(web, names):
    """The mask of a names argument for which None means all folk."""
    if names is None:
        return everybody(web)
    return mask_of(web, names)


def size_of(mask):
    """The number of members."""
    return len(positions(mask))


def world_order_key(mask):
    """The key by which world order compares two sets [11]."""
    places = positions(mask)
    return (len(places), places)


def in_world_order(masks):
    """A list of masks in world order."""
    return sorted(masks, key=world_order_key)


def subsets(mask):
    """All sets of these members, in world order."""
    return in_world_order([part for part in range(mask + 1) if without(part, mask) == 0])


def with_fewest(masks):
    """Those of the sets that have the fewest members; there must be one."""
    least = min([size_of(mask) for mask in masks])
    return [mask for mask in masks if size_of(mask) == least]


def first_place(mask):
    """The place of the first member in folk order; there must be one."""
    return positions(mask)[0]


def rows_with_sum(number, total):
    """All rows of so many numbers from 0 on with this sum, in Python's order of tuples."""
    rows = [()]
    for _ in range(number):
        rows = [row + (part,) for row in rows for part in range(total - sum(row) + 1)]
    return [row for row in rows if sum(row) == total]


def tell_all(web, masks):
    """Each of the sets as the program tells it."""
    return [tell(web, mask) for mask in masks]


def tell(web, mask):
    """The members as the program tells a set: a tuple of names in folk order."""
    return tuple([web.names[place] for place in positions(mask)])
