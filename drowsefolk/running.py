"""Running orders [75], and telling them apart by what they do [76]."""

from drowsefolk.checks import check_number, check_size, everybody, mask_of, place_in, size_of, subsets, tell
from drowsefolk.closing import waking_places
from drowsefolk.deeds import missing_at
from drowsefolk.histories import History
from drowsefolk.names import MOST_LINES, MOST_TICKS
from drowsefolk.orders import MEMBER_SIGN, Order

_MOST_TRIED_FOLK = 5


def _block_end(lines, at):
    """The place of the end of the block that the line at this place opens."""
    return min([place for place in range(at + 1, len(lines)) if lines[place][0] == lines[at][0]])


def _block_start(lines, at):
    """The place of the line that opens the block which the line at this place ends."""
    return max([place for place in range(at) if lines[place][0] == lines[at][0]])


def _place_of_tick(lines, at):
    """The place of the line at which a tick is due when the line at this place is reached, or None."""
    word = lines[at][1][0]
    if word == "end":
        start = _block_start(lines, at)
        return start if lines[start][1][0] == "until" else None
    return None if word in ("until", "each") else at


def _who(web, word, members):
    """The place of the one who is named, or at whom the innermost each is."""
    return members[-1] if word == MEMBER_SIGN else place_in(web.names, word)


def _holds(web, world, words, members):
    """True if the condition of this line holds."""
    asked, word = words[1:]
    if asked == "least":
        return size_of(world) >= int(word)
    if asked == "under":
        return size_of(world) < int(word)
    place = _who(web, word, members)
    if asked in ("awake", "asleep"):
        return (world >> place & 1 == 1) == (asked == "awake")
    return (missing_at(web, world, place) == 0) == (asked == "may")


def _places_to_turn(web, world, words, members):
    """The places of those who have to turn by this line, in order."""
    if words[0] == "rouse":
        return waking_places(web, world, everybody(web))
    place = _who(web, words[1], members)
    is_awake = world >> place & 1 == 1
    if words[0] == "wake" and is_awake or words[0] == "sleep" and not is_awake:
        return []
    if words[0] == "try" and missing_at(web, world, place) > 0:
        return []
    return [place]


def _behind_opening(web, world, lines, at, members):
    """The place of the line behind one that opens a block, and the members at which each block then is."""
    words = lines[at][1]
    if words[0] == "each":
        return (at + 1, members + (0,))
    if words[0] == "until" or _holds(web, world, words, members):
        return (at + 1, members)
    return (_block_end(lines, at) + 1, members)


def _behind_end(web, world, lines, at, members):
    """The place of the line behind the end of a block, and the members at which each block then is."""
    start = _block_start(lines, at)
    words = lines[start][1]
    if words[0] == "while":
        return (start, members)
    if words[0] == "until" and not _holds(web, world, words, members):
        return (start + 1, members)
    if words[0] == "each" and members[-1] + 1 < len(web.names):
        return (start + 1, members[:-1] + (members[-1] + 1,))
    return (at + 1, members[:-1] if words[0] == "each" else members)


def _outcome(web, first, order, ticks):
    """What comes of the order from the world of this mask, as point 75 tells it."""
    lines = order.lines
    at, world, deeds, members, left = 0, first, (), (), ticks
    while at < len(lines):
        due = _place_of_tick(lines, at)
        if due is not None and left == 0:
            return ("endless", tell(web, world), deeds, due + 1, None, 0)
        left = left if due is None else left - 1
        word = lines[at][1][0]
        if word == "end":
            at, members = _behind_end(web, world, lines, at, members)
        elif word in ("if", "while", "until", "each"):
            at, members = _behind_opening(web, world, lines, at, members)
        else:
            for place in _places_to_turn(web, world, lines[at][1], members):
                lack = missing_at(web, world, place)
                if lack > 0:
                    return ("refused", tell(web, world), deeds, at + 1, web.names[place], lack)
                world = world ^ (1 << place)
                deeds = deeds + (web.names[place],)
            at = at + 1
    return ("done", tell(web, world), deeds, 0, None, 0)


def _check_names(web, order):
    """Refuses the first name of the order that the web does not have."""
    for name in order.names:
        place_in(web.names, name)


def run_order(web, awake, order, *, ticks=MOST_TICKS):
    """The outcome of the order: a word, the last world, the deeds, and for some words a line, a name, a weight."""
    first = mask_of(web, awake)
    check_number(ticks, 1, MOST_TICKS)
    _check_names(web, order)
    return _outcome(web, first, order, ticks)


def order_history(web, awake, order, *, ticks=MOST_TICKS):
    """The history of the deeds that the order does, whatever its outcome is."""
    outcome = run_order(web, awake, order, ticks=ticks)
    return History(web, awake, outcome[2])


def order_of(history):
    """The order that does the deeds of the history one by one."""
    check_size("deeds", len(history), MOST_LINES)
    return Order("\n".join([f"turn {name}" for name in history.deeds]))


def _outcomes(web, orders, ticks):
    """For each world of the web, in world order, the outcomes of the orders; refuses a web of too many folk."""
    check_number(ticks, 1, MOST_TICKS)
    for order in orders:
        _check_names(web, order)
    check_size("folk", len(web.names), _MOST_TRIED_FOLK)
    worlds = subsets(everybody(web))
    return [(tell(web, world), [_outcome(web, world, order, ticks) for order in orders]) for world in worlds]


def parting_world(web, first, second, *, ticks=MOST_TICKS):
    """The first world from which the two orders lead to unlike words or worlds, or None."""
    for world, outcomes in _outcomes(web, [first, second], ticks):
        if outcomes[0][:2] != outcomes[1][:2]:
            return world
    return None


def effects(web, order, *, ticks=MOST_TICKS):
    """For each world the word of the outcome and the last world."""
    return [(world, outcomes[0][0], outcomes[0][1]) for world, outcomes in _outcomes(web, [order], ticks)]


def failing_worlds(web, order, *, ticks=MOST_TICKS):
    """The worlds from which the order is not done, each with the word of its outcome."""
    return [(world, word) for world, word, _ in effects(web, order, ticks=ticks) if word != "done"]
