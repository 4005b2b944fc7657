"""Books: what is done with a web and its world, row by row [79], claims that stand or fall [80], undoing [82]."""

from drowsefolk.checks import check_number, mask_of, place_in, tell
from drowsefolk.claims import claim_names, verdict
from drowsefolk.deeds import turned_at
from drowsefolk.errors import (
    BadCount, BadPaper, BadRow, DrowseError, NothingToUndo, StillAwake, Unfinished, plain,
)
from drowsefolk.fewest import fewest
from drowsefolk.histories import History
from drowsefolk.names import MOST_ROWS, MOST_TICKS
from drowsefolk.reach import same_class
from drowsefolk.running import run_order
from drowsefolk.webs import with_folk, with_need, with_watch, without_folk, world_of


class Book:
    """A web and a world that change, and the rows that tell how they changed."""

    def __init__(self, web, awake):
        self._rows = []
        # The web and the world before all rows, and behind each of them.
        self._states = [(web, world_of(web, awake))]

    @property
    def web(self):
        """The present web."""
        return self._states[-1][0]

    @property
    def world(self):
        """The present world."""
        return self._states[-1][1]

    @property
    def first_web(self):
        """The web before all rows."""
        return self._states[0][0]

    @property
    def first_world(self):
        """The world before all rows."""
        return self._states[0][1]

    @property
    def rows(self):
        """The rows in order."""
        return list(self._rows)

    def _add(self, rows, states):
        """Adds the rows with the web and the world behind each; refuses more rows than a book may have."""
        if len(self._rows) + len(rows) > MOST_ROWS:
            # The number told is always that of the first row too many.
            raise BadCount("rows", MOST_ROWS + 1)
        self._rows = self._rows + [plain(row) for row in rows]
        self._states = self._states + states

    def turn(self, name):
        """Files a deed; returns the new world."""
        world = turned_at(self.web, mask_of(self.web, self.world), place_in(self.web.names, name), 1)
        self._add([("turn", name)], [(self.web, tell(self.web, world))])
        return self.world

    def set_need(self, name, need):
        """Files a need; returns the new web."""
        self._add([("need", name, need)], [(with_need(self.web, name, need), self.world)])
        return self.web

    def set_watch(self, watcher, watched, weight):
        """Files the weight of a watch; returns the new web."""
        changed = with_watch(self.web, watcher, watched, weight)
        self._add([("watch", watcher, watched, weight)], [(changed, self.world)])
        return self.web

    def come(self, name, need):
        """Files a new member, who is asleep; returns the new web."""
        self._add([("come", name, need)], [(with_folk(self.web, name, need), self.world)])
        return self.web

    def go(self, name):
        """Files that a sleeping member goes; returns the new web."""
        left = without_folk(self.web, name)
        if name in self.world:
            raise StillAwake(name)
        self._add([("go", name)], [(left, self.world)])
        return self.web

    def claim(self, claim, paper):
        """Files a claim with its paper; returns the verdict."""
        found = verdict(self.web, claim, paper)
        if found == "bad":
            raise BadPaper()
        self._add([("claim", claim, paper, found)], [(self.web, self.world)])
        return found

    def do(self, order, *, ticks=MOST_TICKS):
        """Runs the order and files a row for each of its deeds; returns the deeds."""
        outcome = run_order(self.web, self.world, order, ticks=ticks)
        if outcome[0] != "done":
            raise Unfinished(outcome[0], outcome[3])
        worlds = History(self.web, self.world, outcome[2]).worlds()[1:]
        self._add([("turn", name) for name in outcome[2]], [(self.web, world) for world in worlds])
        return outcome[2]

    def run_all(self, rows):
        """Files all of the rows or, if one of them is wrong, none; returns their number."""
        trial = self.twin()
        for place, row in enumerate(rows, start=1):
            if not is_filed(trial, row):
                raise BadRow(place)
        self._rows = list(trial._rows)
        self._states = list(trial._states)
        return len(rows)

    def undo(self):
        """Takes back the last row and returns it."""
        if len(self._rows) == 0:
            raise NothingToUndo()
        row = self._rows[-1]
        self._rows = self._rows[:-1]
        self._states = self._states[:-1]
        return row

    def at(self, place):
        """The web and the world behind so many rows."""
        check_number(place, 0, len(self._rows))
        return self._states[place]

    def claims(self):
        """The claim rows in order, each as (place, claim, verdict)."""
        return [(place, row[1], row[3]) for place, row in enumerate(self._rows, start=1) if row[0] == "claim"]

    def standing(self):
        """The places of the claim rows whose claims stand."""
        return [
            place for place, row in enumerate(self._rows, start=1)
            if row[0] == "claim" and _stands(self.web, row[1], row[2], row[3])
        ]

    def can_come(self, target):
        """True if the target comes of the present world."""
        return same_class(self.web, self.world, target)

    def fewest_to(self, target):
        """The fewest deeds from the present world to the target."""
        return fewest(self.web, self.world, target)

    def twin(self):
        """A new book with the same rows, which then changes by itself."""
        other = Book(self.first_web, self.first_world)
        other._rows = list(self._rows)
        other._states = list(self._states)
        return other

    def __len__(self):
        return len(self._rows)

    def __eq__(self, other):
        if not isinstance(other, Book):
            return False
        if self.first_web != other.first_web or self.first_world != other.first_world:
            return False
        return self._rows == other._rows


def _stands(web, claim, paper, filed):
    """True if all folk of the claim belong to the web and the verdict is still the one that was filed."""
    return all([name in web for name in claim_names(claim)]) and verdict(web, claim, paper) == filed


def _file(book, row):
    """Files the row by the method of its kind; False if its word is not known or its verdict is not the one found."""
    if row[0] == "turn":
        book.turn(row[1])
    elif row[0] == "need":
        book.set_need(row[1], row[2])
    elif row[0] == "watch":
        book.set_watch(row[1], row[2], row[3])
    elif row[0] == "come":
        book.come(row[1], row[2])
    elif row[0] == "go":
        book.go(row[1])
    elif row[0] == "claim":
        return book.claim(row[1], row[2]) == row[3]
    else:
        return False
    return True


def is_filed(book, row):
    """Files the row; False if it is wrong, and then the book may hold it with another verdict."""
    try:
        return _file(book, row)
    except DrowseError:
        return False
