"""Renamings of folk, and what they make of webs and worlds [16]."""

from drowsefolk.checks import check_count, check_new_name, mask_of, positions
from drowsefolk.errors import Repeated, UnknownFolk
from drowsefolk.names import MOST_FOLK
from drowsefolk.webs import Web


def _examined_pairs(pairs):
    """The pairs (old, new) as a dict in the order passed, each one examined."""
    check_count("pairs", len(pairs), 1, MOST_FOLK)
    table = {}
    for old, new in pairs:
        check_new_name(old)
        check_new_name(new)
        if old in table:
            raise Repeated(old)
        if new in list(table.values()):
            raise Repeated(new)
        # str turns a text of a kind made from Python's own into one of Python's own kind.
        table[str(old)] = str(new)
    return table


class Renaming:
    """A row of pairs (old, new) of unlike old and unlike new names; it never changes."""

    def __init__(self, pairs):
        self._table = _examined_pairs(pairs)

    @property
    def pairs(self):
        """The pairs (old, new) in their order."""
        return tuple([(old, new) for old, new in self._table.items()])

    @staticmethod
    def same(names):
        """The renaming of each name to itself, in this order."""
        return Renaming([(name, name) for name in names])

    def __call__(self, name):
        if name not in self._table:
            raise UnknownFolk(name)
        return self._table[name]

    def __mul__(self, other):
        for row in other.pairs:
            if row[1] not in self._table:
                raise UnknownFolk(row[1])
        return Renaming([(old, self._table[new]) for old, new in other.pairs])

    def __neg__(self):
        return Renaming([(new, old) for old, new in self._table.items()])

    def __eq__(self, other):
        # Two dicts are equal in whatever order their pairs stand.
        return isinstance(other, Renaming) and self._table == other._table


def renamed(web, renaming):
    """The web with the new names in the places of the old ones."""
    folk = [(renaming(name), need) for name, need in web.folk]
    watches = [(renaming(watcher), renaming(watched), weight) for watcher, watched, weight in web.watches]
    return Web(folk, watches)


def renamed_world(web, awake, renaming):
    """The new names of the awake, in folk order; each member of the web must have one."""
    mask = mask_of(web, awake)
    names = [renaming(name) for name in web.names]
    return tuple([names[place] for place in positions(mask)])
