"""Histories: rows of deeds that are allowed one after the other [19] [20]."""

from drowsefolk.checks import check_count, check_number, mask_of, place_in, tell
from drowsefolk.deeds import deed_places, world_behind, world_row
from drowsefolk.errors import NotJoined, OtherWeb
from drowsefolk.names import MOST_DEEDS


class History:
    """A web, a first world and a row of allowed deeds; it never changes."""

    def __init__(self, web, awake, deeds):
        first = mask_of(web, awake)
        places = deed_places(web, deeds)
        self._web = web
        self._masks = tuple(world_row(web, first, places))
        self._deeds = tuple([web.names[place] for place in places])

    @property
    def web(self):
        """The web of the history."""
        return self._web

    @property
    def first_world(self):
        """The world before all deeds."""
        return tell(self._web, self._masks[0])

    @property
    def last_world(self):
        """The world behind all deeds."""
        return tell(self._web, self._masks[-1])

    @property
    def deeds(self):
        """The names of those who turn, in order."""
        return self._deeds

    def worlds(self):
        """All worlds in order, one more than the deeds."""
        return [tell(self._web, mask) for mask in self._masks]

    def at(self, place):
        """The world behind so many deeds."""
        check_number(place, 0, len(self._deeds))
        return tell(self._web, self._masks[place])

    def turned(self, name):
        """How often the named one turns."""
        place_in(self._web.names, name)
        return self._deeds.count(name)

    def cut(self, low, high):
        """The history of the deeds from number low up to but not including number high."""
        check_number(low, 0, len(self._deeds))
        check_number(high, low, len(self._deeds))
        return History(self._web, tell(self._web, self._masks[low]), self._deeds[low:high])

    def __add__(self, other):
        if self._web != other.web:
            raise OtherWeb()
        if self.last_world != other.first_world:
            raise NotJoined(self.last_world, other.first_world)
        check_count("deeds", len(self._deeds) + len(other.deeds), 0, MOST_DEEDS)
        return History(self._web, self.first_world, self._deeds + other.deeds)

    def __neg__(self):
        return History(self._web, self.last_world, self._deeds[::-1])

    def __len__(self):
        return len(self._deeds)

    def __eq__(self, other):
        if not isinstance(other, History):
            return False
        return self._web == other.web and self.first_world == other.first_world and self._deeds == other.deeds


def reduced(history):
    """The history without neighbouring equal deeds, which undo each other."""
    deeds = []
    for name in history.deeds:
        if deeds[-1:] == [name]:
            deeds.pop()
        else:
            deeds.append(name)
    return History(history.web, history.first_world, deeds)


def shortened(history):
    """The history without the deeds between a world and the same world come again."""
    worlds = [history.first_world]
    deeds = []
    for at, name in enumerate(history.deeds, start=1):
        world = history.at(at)
        if world in worlds:
            kept = worlds.index(world)
            worlds = worlds[:kept + 1]
            deeds = deeds[:kept]
        else:
            worlds.append(world)
            deeds.append(name)
    return History(history.web, history.first_world, deeds)


def is_history(web, awake, target, paper):
    """True if the paper is the deeds of a history from the first world to the second."""
    first = mask_of(web, awake)
    last = mask_of(web, target)
    return world_behind(web, first, paper) == last
