"""Orders: texts of lines that tell what to do [72], how they are read [73], and their canonical text [74]."""

from drowsefolk.checks import check_size
from drowsefolk.errors import BadText
from drowsefolk.names import MOST_DEPTH, MOST_LINES, is_name

# The sign that stands for the member at which the innermost each is.
MEMBER_SIGN = "*"

_TURNING = ("wake", "sleep", "turn", "try")
_TESTING = ("if", "while", "until")
_OPENING = ("if", "while", "until", "each")
_ALONE = ("rouse", "each", "end")
_ABOUT_ONE = ("awake", "asleep", "may", "cannot")
_ABOUT_NUMBER = ("least", "under")
_NUMBERS = ("0", "1", "2", "3", "4", "5", "6", "7", "8", "9", "10")
_INDENT = "  "


def _is_who(word, blocks):
    """True if the word is a name, or the sign for the member at which an each around the line is."""
    return is_name(word) or word == MEMBER_SIGN and "each" in blocks


def _is_condition(words, blocks):
    """True if the words are a condition."""
    if len(words) != 2:
        return False
    if words[0] in _ABOUT_NUMBER:
        return words[1] in _NUMBERS
    return words[0] in _ABOUT_ONE and _is_who(words[1], blocks)


def _has_form(words, blocks):
    """True if the words of a line have one of the forms, inside the blocks that are open."""
    if words[0] in _TURNING:
        return len(words) == 2 and _is_who(words[1], blocks)
    if words[0] in _TESTING:
        return _is_condition(words[1:], blocks)
    return len(words) == 1 and words[0] in _ALONE


def _may_stand(words, blocks, kept):
    """True if a line of right form may stand behind the lines kept so far, inside the blocks that are open."""
    if len(kept) == MOST_LINES:
        return False
    if words[0] == "end":
        # The line before it is the opening one exactly if the block has no kept line inside.
        return len(blocks) > 0 and kept[-1][1][0] not in _OPENING
    return words[0] not in _OPENING or len(blocks) < MOST_DEPTH


def _read(text):
    """The kept lines as pairs (number of blocks around it, words); refuses the first line at fault."""
    lines = text.split("\n")
    kept = []
    blocks = []
    for at, line in enumerate(lines, start=1):
        words = tuple([word for word in line.split(" ") if word != ""])
        if len(words) == 0 or words[0].startswith("#"):
            continue
        if not _has_form(words, blocks) or not _may_stand(words, blocks, kept):
            raise BadText(at)
        if words[0] == "end":
            blocks = blocks[:-1]
        kept.append((len(blocks), words))
        if words[0] in _OPENING:
            blocks = blocks + [words[0]]
    if len(blocks) > 0:
        raise BadText(len(lines) + 1)
    return tuple(kept)


def _is_named(words):
    """True if the last word of the line is a name."""
    return len(words) > 1 and words[-2] not in _ABOUT_NUMBER and words[-1] != MEMBER_SIGN


class Order:
    """A row of lines that tell what to do; it never changes."""

    def __init__(self, text):
        self._lines = _read(text)

    @property
    def lines(self):
        """The kept lines, each as a pair (number of blocks around it, words)."""
        return self._lines

    @property
    def text(self):
        """The canonical text."""
        return "\n".join([_INDENT * depth + " ".join(words) for depth, words in self._lines])

    @property
    def names(self):
        """The unlike names in the order in which they first come."""
        found = [words[-1] for _, words in self._lines if _is_named(words)]
        return tuple([name for at, name in enumerate(found) if name not in found[:at]])

    @property
    def depth(self):
        """The greatest number of blocks around a line; 0 for an order without lines."""
        return max([depth for depth, _ in self._lines], default=0)

    def __add__(self, other):
        check_size("lines", len(self._lines) + len(other.lines), MOST_LINES)
        return Order(self.text + "\n" + other.text)

    def __len__(self):
        return len(self._lines)

    def __eq__(self, other):
        return isinstance(other, Order) and self._lines == other.lines
