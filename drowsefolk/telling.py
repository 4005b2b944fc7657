"""Telling pieces apart by surrounds [58] [59], shrinking a web [57], and joining pieces and tables [61]."""

from drowsefolk.checks import check_same_names, check_size, tell
from drowsefolk.closing import with_places
from drowsefolk.errors import OtherNeed, Repeated
from drowsefolk.gluing import Surround, glue, outer_closure, rests_by_set, split_web
from drowsefolk.names import PIECE_FOLK, PIECE_WATCHES
from drowsefolk.pieces import Piece, smaller, table
from drowsefolk.webs import Web


def alike_in_all(one, other):
    """True if the two pieces do the same to every surround."""
    check_same_names(one.border, other.border)
    return table(one) == table(other)


def _row_wakes_no_more(row, other_row):
    """True if the first row has nobody awake whom the second has not, and lacks no less for anybody."""
    if not all([name in other_row[1] for name in row[1]]):
        return False
    return all([lack >= other_lack for lack, other_lack in zip(row[2], other_row[2])])


def wakes_no_more(one, other):
    """True if the first piece wakes nobody in any surround whom the second does not wake."""
    check_same_names(one.border, other.border)
    return all([_row_wakes_no_more(row, other_row) for row, other_row in zip(table(one), table(other))])


def _free_name(taken):
    """The first of z0, z1 and so on that is not taken."""
    number = 0
    while f"z{number}" in taken:
        number = number + 1
    return f"z{number}"


def _telling_weights(one, other, row, other_row):
    """The weights by which an outer member tells the pieces apart, by the names of those whom it watches."""
    weights = {name: max(1, one.web.need(name), other.web.need(name)) for name in row[0]}
    if row[1] == other_row[1]:
        lacks = list(zip(row[2], other_row[2]))
        place = [lack == other_lack for lack, other_lack in lacks].index(False)
        weights[one.border[place]] = min(lacks[place])
    return weights


def telling(one, other):
    """A surround in which the pieces differ, with nobody awake, or None if there is none."""
    check_same_names(one.border, other.border)
    for row, other_row in zip(table(one), table(other)):
        if row != other_row:
            name = _free_name(one.web.names + other.web.names)
            weights = _telling_weights(one, other, row, other_row)
            return (Surround(one.border, [(name, 0)], [(name, told, weights[told]) for told in list(weights)]), ())
    return None


def is_telling(one, other, surround, awake):
    """True if the two pieces differ in this surround with these awake."""
    return outer_closure(one, surround, awake) != outer_closure(other, surround, awake)


def shrunk_web(web, names, border):
    """The web in which the smaller piece stands in the place of the piece with these inner folk."""
    piece, surround = split_web(web, names, border)
    return glue(smaller(piece), surround)


def _check_joinable(one, other):
    """Refuses two pieces that cannot be joined."""
    check_same_names(one.border, other.border)
    for name in one.border:
        if one.web.need(name) != other.web.need(name):
            raise OtherNeed(name)
    for name in other.inner:
        if name in one.inner:
            raise Repeated(name)
    for watcher, watched, _ in other.web.watches:
        # A pair that has a watch in both is one of the border: no other name is in both.
        if watcher in one.web and watched in one.web and one.web.weight(watcher, watched) > 0:
            raise Repeated((watcher, watched))
    check_size("folk", len(one.web.names) + len(other.inner), PIECE_FOLK)
    check_size("watches", len(one.web.watches) + len(other.web.watches), PIECE_WATCHES)


def join_pieces(one, other):
    """The piece with the folk, watches and awake of both, on one border."""
    _check_joinable(one, other)
    folk = one.web.folk + tuple([row for row in other.web.folk if row[0] in other.inner])
    web = Web(folk, one.web.watches + other.web.watches)
    return Piece(web, one.border, awake=one.awake + other.awake)


def _joined_rest(rests, other_rests, needs, mask):
    """The mask to which this set of the border grows by both tables, and what the others lack then."""
    rested, lacks = rests[mask]
    other_rested, other_lacks = other_rests[mask]
    # Each lack is the need without a weight, so that the two weights together reach the need just then.
    spare = [lack + other_lack - need for lack, other_lack, need in zip(lacks, other_lacks, needs)]
    woken = with_places(rested | other_rested, [place for place, left in enumerate(spare) if left <= 0])
    if woken != mask:
        return _joined_rest(rests, other_rests, needs, woken)
    return (mask, tuple([max(0, left) for left in spare]))


def join_tables(one_rows, other_rows, needs):
    """The table of the joined piece, from the tables of both and the needs of the border."""
    # A surround of the border alone gives the places of the names.
    frame = Surround(one_rows[-1][0], (), ())
    rests = rests_by_set(one_rows, frame)
    other_rests = rests_by_set(other_rows, frame)
    joined = []
    for mask in list(rests):
        woken, lacks = _joined_rest(rests, other_rests, needs, mask)
        joined.append((tell(frame, mask), tell(frame, woken), lacks))
    return joined
