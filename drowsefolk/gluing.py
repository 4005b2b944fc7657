"""Surrounds [54], what gluing them to pieces makes of both [55] [56], and splitting a web [57]."""

from drowsefolk.checks import (
    check_count, check_new_name, check_same_names, everybody, first_place, mask_of, tell, without,
)
from drowsefolk.closing import check_inside, closed_in_all, with_places
from drowsefolk.deeds import weight_at
from drowsefolk.errors import Crossing, OnBorder, Repeated
from drowsefolk.names import MOST_BORDER, MOST_OUTER
from drowsefolk.pieces import Piece
from drowsefolk.webs import Web, all_pulls, examined_folk, examined_watches, sub_web


def _examined_border(border):
    """The names of the border as a tuple, each one examined as a new name."""
    check_count("border", len(border), 0, MOST_BORDER)
    names = []
    for name in border:
        check_new_name(name)
        if name in names:
            raise Repeated(name)
        names.append(str(name))
    return tuple(names)


class Surround:
    """A border, outer folk, and watches of which none is between two of the border; it never changes."""

    def __init__(self, border, folk, watches):
        self._border = _examined_border(border)
        check_count("outer", len(folk), 0, MOST_OUTER)
        self._folk = examined_folk(self._border, folk)
        self._outer = tuple([row[0] for row in self._folk])
        self._watches = examined_watches(self._border, self._outer, watches)
        self._pulls = all_pulls(self._border + self._outer, self._watches)

    @property
    def border(self):
        """The names of the border in the order passed."""
        return self._border

    @property
    def folk(self):
        """The pairs (name, need) of the outer folk in the order passed."""
        return self._folk

    @property
    def watches(self):
        """The triples (watcher, watched, weight) in pair order."""
        return self._watches

    @property
    def names(self):
        """The names of the border and then those of the outer folk."""
        return self._border + self._outer

    def pulls_at(self, place):
        """The watches on the one at this place of the names, each as (bit of the watcher, weight)."""
        return self._pulls[place]

    def __eq__(self, other):
        if not isinstance(other, Surround):
            return False
        return self._border == other._border and self._folk == other._folk and self._watches == other._watches


def glue(piece, surround):
    """The web of the folk and watches of both; too many of them are refused by Web itself."""
    check_same_names(piece.border, surround.border)
    for name, _ in surround.folk:
        if name in piece.inner:
            raise Repeated(name)
    return Web(piece.web.folk + surround.folk, piece.web.watches + surround.watches)


def outer_closure(piece, surround, awake):
    """The closure in the glued web of these and of the awake inner folk, without all inner folk."""
    names = tell(surround, mask_of(surround, awake))
    web = glue(piece, surround)
    woken = tell(web, closed_in_all(web, mask_of(web, names + piece.awake)))
    return tuple([name for name in surround.names if name in woken])


def neighbours(web, names):
    """Those outside of the set who watch somebody in it or are watched by somebody in it."""
    inside = tell(web, mask_of(web, names))
    joined = [row[0] for row in web.watches if row[1] in inside] + [row[1] for row in web.watches if row[0] in inside]
    return tuple([name for name in web.names if name in joined and name not in inside])


def _check_no_crossing(web, inside, outer):
    """Refuses a watch between somebody of the one set and somebody of the other."""
    for watcher, watched, _ in web.watches:
        ends = mask_of(web, (watcher, watched))
        if ends & inside > 0 and ends & outer > 0:
            raise Crossing(watcher, watched)


def split_web(web, names, border, *, awake=()):
    """The piece with these inner folk and this border, and the surround made of all the rest."""
    inside = mask_of(web, names)
    check_count("border", len(border), 0, MOST_BORDER)
    edge = mask_of(web, border)
    world = mask_of(web, awake)
    if inside & edge > 0:
        raise OnBorder(web.names[first_place(inside & edge)])
    outer = without(everybody(web), inside | edge)
    _check_no_crossing(web, inside, outer)
    check_inside(web, world, inside)
    # A piece of nobody is refused by sub_web, one that is too large by Piece, too many outer folk by Surround.
    piece = Piece(sub_web(web, tell(web, inside | edge)), tell(web, edge), awake=tell(web, world))
    rest = tell(web, outer)
    folk = [row for row in web.folk if row[0] in rest]
    watches = [row for row in web.watches if row[0] in rest or row[1] in rest]
    return (piece, Surround(piece.border, folk, watches))


def rests_by_set(rows, surround):
    """For the mask of each set of the border the mask in which it comes to rest, and what the others lack there."""
    return {mask_of(surround, row[0]): (mask_of(surround, row[1]), tuple(row[2])) for row in rows}


def _woken_by_rows(rests, surround, world):
    """The mask behind the rest of the border and then the waking of all who may wake."""
    edge = (1 << len(surround.border)) - 1
    rested, lacks = rests[world & edge]
    # The border needs from the outer folk what it lacks at rest; the outer folk need what they always do.
    needs = lacks + tuple([row[1] for row in surround.folk])
    weights = [weight_at(surround, world | rested, place) for place in range(len(needs))]
    return with_places(world | rested, [place for place, need in enumerate(needs) if weights[place] >= need])


def closure_by_table(rows, surround, awake):
    """The outer closure that each piece with this table gives."""
    world = mask_of(surround, awake)
    check_same_names(tuple(rows[-1][0]), surround.border)
    rests = rests_by_set(rows, surround)
    woken = _woken_by_rows(rests, surround, world)
    while woken != world:
        world = woken
        woken = _woken_by_rows(rests, surround, world)
    return tell(surround, world)
