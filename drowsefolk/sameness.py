"""Webs that are alike but for their names [45], canonical webs [46], and the first difference of two webs [47]."""

from drowsefolk.checks import check_size, everybody, first_unlike, paper_mask, place_in
from drowsefolk.names import RENAME_LIMIT
from drowsefolk.renaming import Renaming
from drowsefolk.webs import Web, pairs_in_order

_LETTERS = "abcde"


def _weight_between(web, watcher_place, watched_place):
    """The weight of the watch between the folk at these places; 0 if there is none."""
    return web.weight(web.names[watcher_place], web.names[watched_place])


def _arrangements(number):
    """All orders of so many places, in Python's order of tuples."""
    rows = [()]
    for _ in range(number):
        rows = [row + (place,) for row in rows for place in range(number) if place not in row]
    return rows


def _are_places_right(one, other, places):
    """True if each of the first web is as the one of the second at the place told for them."""
    for place, other_place in enumerate(places):
        if one.need_at(place) != other.need_at(other_place):
            return False
    for watched, watcher in pairs_in_order(len(places)):
        weight = _weight_between(other, places[watcher], places[watched])
        if _weight_between(one, watcher, watched) != weight:
            return False
    return True


def _right_arrangements(one, other):
    """All rows of places that show two webs to be alike, in order; refuses webs of too many folk."""
    check_size("folk", max(len(one.names), len(other.names)), RENAME_LIMIT)
    if len(one.names) != len(other.names):
        return []
    return [places for places in _arrangements(len(one.names)) if _are_places_right(one, other, places)]


def find_renaming(one, other):
    """The first renaming that shows the webs to be alike, or None."""
    found = _right_arrangements(one, other)
    if len(found) == 0:
        return None
    return Renaming([(one.names[place], other.names[new_place]) for place, new_place in enumerate(found[0])])


def is_renaming(one, other, paper):
    """True if the pairs of the paper show the webs to be alike."""
    if paper_mask(one, [row[0] for row in paper]) != everybody(one):
        return False
    if paper_mask(other, [row[1] for row in paper]) != everybody(other):
        return False
    new_places = {place_in(one.names, old): place_in(other.names, new) for old, new in paper}
    return _are_places_right(one, other, [new_places[place] for place in range(len(one.names))])


def _arrangement_key(web, row):
    """The key of an arrangement: the needs, and the weights of all ordered pairs."""
    needs = tuple([web.need_at(place) for place in row])
    weights = [_weight_between(web, row[watcher], row[watched]) for watched, watcher in pairs_in_order(len(row))]
    return (needs, tuple(weights))


def _canonical_row(web):
    """The places of the folk in the canonical arrangement; refuses a web of too many folk."""
    check_size("folk", len(web.names), RENAME_LIMIT)
    return min([(_arrangement_key(web, row), row) for row in _arrangements(len(web.names))])[1]


def canonical_web(web):
    """The web that is the same for all webs which are alike."""
    row = _canonical_row(web)
    folk = [(_LETTERS[at], web.need_at(place)) for at, place in enumerate(row)]
    places = {name: row.index(place) for place, name in enumerate(web.names)}
    return Web(folk, [(_LETTERS[places[one]], _LETTERS[places[other]], weight) for one, other, weight in web.watches])


def canonical_renaming(web):
    """The renaming that leads from the web to its canonical web."""
    row = _canonical_row(web)
    return Renaming([(name, _LETTERS[row.index(place)]) for place, name in enumerate(web.names)])


def count_selfs(web):
    """The number of renamings that show the web to be alike to itself."""
    return len(_right_arrangements(web, web))


def _name_at(web, place):
    """The name at this place, or None behind the last one."""
    return web.names[place] if place < len(web.names) else None


def first_difference(one, other):
    """The first difference of two webs in names, needs and watches; None if they are equal."""
    place = first_unlike(one.names, other.names)
    if place is not None:
        return ("folk", _name_at(one, place), _name_at(other, place))
    for at, name in enumerate(one.names):
        if one.need_at(at) != other.need_at(at):
            return ("need", name, one.need_at(at), other.need_at(at))
    for watched, watcher in pairs_in_order(len(one.names)):
        weights = (_weight_between(one, watcher, watched), _weight_between(other, watcher, watched))
        if weights[0] != weights[1]:
            return ("watch", one.names[watcher], one.names[watched], weights[0], weights[1])
    return None
