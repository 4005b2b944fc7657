"""The limits of the program, and the forms of names and numbers [8]."""

MOST_FOLK = 10
MOST_WATCHES = 24
MOST_NUMBER = 9999
MOST_DEEDS = 200
CLASS_LIMIT = 400
SMALL_CLASS = 64
SUBSET_LIMIT = 8
RENAME_LIMIT = 5
KEEPER_LIMIT = 6
LIGHT_LIMIT = 4
MOST_BORDER = 3
MOST_OUTER = 7
PIECE_FOLK = 9
PIECE_WATCHES = 21
MOST_SIGHTINGS = 8
MOST_GAP = 6
MOST_LINES = 40
MOST_DEPTH = 4
MOST_TICKS = 90
MOST_ROWS = 60

_LONGEST_NAME = 8
_LETTERS = "abcdefghijklmnopqrstuvwxyz"
_LETTERS_AND_DIGITS = "abcdefghijklmnopqrstuvwxyz0123456789"


def is_name(text):
    """True if the text has the form of a name, else False."""
    if not 1 <= len(text) <= _LONGEST_NAME:
        return False
    return text[0] in _LETTERS and all([sign in _LETTERS_AND_DIGITS for sign in text])


def is_number(value, low, high):
    """True if the value is an integer from low to high, both included; False for every bool."""
    return isinstance(value, int) and not isinstance(value, bool) and low <= value <= high
