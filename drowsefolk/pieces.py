"""Pieces: webs with a border [52], what they make of the border [53], and struck members [60]."""

from drowsefolk.checks import (
    check_count, check_size, everybody, first_place, mask_of, positions, subsets, tell, without,
)
from drowsefolk.closing import closed_in_all
from drowsefolk.deeds import missing_at
from drowsefolk.errors import NotBorder, NotInner, OnBorder, Repeated
from drowsefolk.names import MOST_BORDER, PIECE_FOLK, PIECE_WATCHES
from drowsefolk.webs import without_folk


class Piece:
    """A web, a border of at most three of its folk, and the inner folk who are awake; it never changes."""

    def __init__(self, web, border, *, awake=()):
        check_count("border", len(border), 0, MOST_BORDER)
        edge = mask_of(web, border)
        world = mask_of(web, awake)
        if world & edge > 0:
            raise OnBorder(web.names[first_place(world & edge)])
        check_size("folk", len(web.names), PIECE_FOLK)
        check_size("watches", len(web.watches), PIECE_WATCHES)
        self._web = web
        self._border = tell(web, edge)
        self._inner = tell(web, without(everybody(web), edge))
        self._awake = tell(web, world)

    @property
    def web(self):
        """The web of the piece, with its border."""
        return self._web

    @property
    def border(self):
        """The folk on the border, in folk order."""
        return self._border

    @property
    def inner(self):
        """The folk who are not on the border, in folk order."""
        return self._inner

    @property
    def awake(self):
        """The inner folk who are awake, in folk order."""
        return self._awake

    def __eq__(self, other):
        if not isinstance(other, Piece):
            return False
        return self._web == other._web and self._border == other._border and self._awake == other._awake


def _settled(piece, mask):
    """The mask of the settled world, from the mask of a set of the border."""
    return closed_in_all(piece.web, mask | mask_of(piece.web, piece.awake))


def settle(piece, told):
    """The closure of these border folk together with the awake inner folk."""
    for at, name in enumerate(told):
        if name not in piece.border:
            raise NotBorder(name)
        if name in told[:at]:
            raise Repeated(name)
    return tell(piece.web, _settled(piece, mask_of(piece.web, told)))


def _row(piece, mask):
    """The row of the table for a set of the border."""
    web = piece.web
    world = _settled(piece, mask)
    rested = world & mask_of(web, piece.border)
    places = positions(mask_of(web, piece.border))
    lacks = [0 if world >> place & 1 == 1 else missing_at(web, world, place) for place in places]
    return (tell(web, mask), tell(web, rested), tuple(lacks))


def table(piece):
    """A row for each set of the border: the set, who of the border is awake behind it, and what the others lack."""
    return [_row(piece, mask) for mask in subsets(mask_of(piece.web, piece.border))]


def struck(piece, name):
    """The piece without this inner member."""
    if name in piece.border:
        raise NotInner(name)
    # Somebody unknown, and the only one of the web, are refused by the web that would be left.
    rest = without_folk(piece.web, name)
    return Piece(rest, piece.border, awake=[other for other in piece.awake if other != name])


def smaller(piece):
    """The piece without those inner members whose striking leaves the table as it is."""
    rows = table(piece)
    kept = piece
    for name in piece.inner:
        if len(kept.web.names) > 1 and table(struck(kept, name)) == rows:
            kept = struck(kept, name)
    return kept
