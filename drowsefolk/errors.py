"""The errors of the program [9]: all stand directly under DrowseError."""


def plain(value):
    """The same value as one of Python's own kind; a list becomes a tuple of its entries."""
    if isinstance(value, (list, tuple)):
        return tuple([plain(part) for part in value])
    if isinstance(value, str):
        return str(value)
    # A bool must stay a bool: int would make a number of it.
    if isinstance(value, int) and not isinstance(value, bool):
        return int(value)
    return value


class DrowseError(ValueError):
    """The base of all errors of the program; it is never raised itself."""


class BadName(DrowseError):
    """A new name that has not the form of a name."""

    def __init__(self, name):
        self.name = plain(name)


class BadNumber(DrowseError):
    """A number out of its range, or a bool in the place of a number."""

    def __init__(self, value):
        self.value = plain(value)


class BadCount(DrowseError):
    """A list with too few or too many entries, or a web with too few or too many parts."""

    def __init__(self, what, number):
        self.what = plain(what)
        self.number = plain(number)


class Repeated(DrowseError):
    """An entry that equals an earlier one: a name, a pair of names or a moment."""

    def __init__(self, value):
        self.value = plain(value)


class UnknownFolk(DrowseError):
    """A name that is none of those that may stand here."""

    def __init__(self, name):
        self.name = plain(name)


class SelfWatch(DrowseError):
    """A watch of somebody over themselves."""

    def __init__(self, name):
        self.name = plain(name)


class BadText(DrowseError):
    """A text that cannot be read; the first line at fault, counted from 1."""

    def __init__(self, line):
        self.line = plain(line)


class TooLarge(DrowseError):
    """Work beyond a limit on its size."""

    def __init__(self, what, limit):
        self.what = plain(what)
        self.limit = plain(limit)


class TooLight(DrowseError):
    """A deed of somebody who may not turn; its place in the row of deeds, counted from 1."""

    def __init__(self, name, missing, place):
        self.name = plain(name)
        self.missing = plain(missing)
        self.place = plain(place)


class OtherWeb(DrowseError):
    """Two histories of unequal webs."""

    def __init__(self):
        pass


class NotJoined(DrowseError):
    """A history that does not begin where the one before it ends."""

    def __init__(self, last, first):
        self.last = plain(last)
        self.first = plain(first)


class Outside(DrowseError):
    """Somebody awake outside of the set within which the work stays."""

    def __init__(self, name):
        self.name = plain(name)


class NotNest(DrowseError):
    """A set of folk that is no nest."""

    def __init__(self, nest):
        self.nest = plain(nest)


class NotOneClass(DrowseError):
    """Two worlds of different classes, and a nest that parts them."""

    def __init__(self, nest):
        self.nest = plain(nest)


class NoLength(DrowseError):
    """A length that no history has."""

    def __init__(self, length):
        self.length = plain(length)


class Contrary(DrowseError):
    """Somebody who is told both awake and asleep."""

    def __init__(self, name):
        self.name = plain(name)


class NoFit(DrowseError):
    """A picture that fits no world of the class, and the nests that show it."""

    def __init__(self, avoided, met):
        self.avoided = plain(avoided)
        self.met = plain(met)


class NotThin(DrowseError):
    """A world that is not thin, and somebody who can be left out."""

    def __init__(self, name):
        self.name = plain(name)


class OtherFolk(DrowseError):
    """Two rows of names that differ; the first such place, counted from 0."""

    def __init__(self, place):
        self.place = plain(place)


class OtherNeed(DrowseError):
    """Somebody on the border whose needs differ."""

    def __init__(self, name):
        self.name = plain(name)


class OnBorder(DrowseError):
    """Somebody on the border who may not be there."""

    def __init__(self, name):
        self.name = plain(name)


class NotBorder(DrowseError):
    """A name that is not on the border."""

    def __init__(self, name):
        self.name = plain(name)


class NotInner(DrowseError):
    """Somebody who is not an inner one."""

    def __init__(self, name):
        self.name = plain(name)


class BorderWatch(DrowseError):
    """A watch between two of the border."""

    def __init__(self, watcher, watched):
        self.watcher = plain(watcher)
        self.watched = plain(watched)


class Misfit(DrowseError):
    """A diary that does not fit; its first misfit."""

    def __init__(self, place):
        self.place = plain(place)


class NoRepair(DrowseError):
    """No repair up to the number told."""

    def __init__(self, most):
        self.most = plain(most)


class NoWatch(DrowseError):
    """A watch that the web does not have."""

    def __init__(self, watcher, watched):
        self.watcher = plain(watcher)
        self.watched = plain(watched)


class Crossing(DrowseError):
    """A watch between somebody inside and somebody who is neither inside nor on the border."""

    def __init__(self, watcher, watched):
        self.watcher = plain(watcher)
        self.watched = plain(watched)


class BadClaim(DrowseError):
    """A claim whose word is not known."""

    def __init__(self, word):
        self.word = plain(word)


class BadPaper(DrowseError):
    """A paper that is not right for its claim."""

    def __init__(self):
        pass


class BadRow(DrowseError):
    """A row that cannot be filed; its place, counted from 1."""

    def __init__(self, place):
        self.place = plain(place)


class Unfinished(DrowseError):
    """An order that did not come to its end."""

    def __init__(self, word, line):
        self.word = plain(word)
        self.line = plain(line)


class NothingToUndo(DrowseError):
    """A book without rows to take back."""

    def __init__(self):
        pass


class StillAwake(DrowseError):
    """Somebody who is awake and may not go."""

    def __init__(self, name):
        self.name = plain(name)
