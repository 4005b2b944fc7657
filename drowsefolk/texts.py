"""The texts of webs [13] [14] and of worlds [15]."""

from drowsefolk.checks import mask_of, tell
from drowsefolk.errors import BadText
from drowsefolk.names import MOST_FOLK, MOST_WATCHES, is_name
from drowsefolk.webs import Web

_MOST_DIGITS = 4
_NOBODY = "-"


def is_written_number(word):
    """True if the word is 0, or one to four digits of which the first is not 0."""
    if not 1 <= len(word) <= _MOST_DIGITS or not all([sign in "0123456789" for sign in word]):
        return False
    return word == "0" or word[0] != "0"


def web_text(web):
    """The text of the web, without a line feed at its end."""
    lines = [f"folk {name} {need}" for name, need in web.folk]
    lines.extend([f"watch {watcher} {watched} {weight}" for watcher, watched, weight in web.watches])
    return "\n".join(lines)


def _is_folk_line(words, folk, watches):
    """True if the words are a right folk line behind the folk and watches read so far."""
    if len(words) != 3 or words[0] != "folk" or len(watches) > 0:
        return False
    if not is_name(words[1]) or not is_written_number(words[2]):
        return False
    return len(folk) < MOST_FOLK and words[1] not in [row[0] for row in folk]


def _is_watch_line(words, folk, watches):
    """True if the words are a right watch line behind the folk and watches read so far."""
    if len(words) != 4 or words[0] != "watch" or len(watches) >= MOST_WATCHES:
        return False
    names = [row[0] for row in folk]
    if words[1] not in names or words[2] not in names or words[1] == words[2]:
        return False
    if not is_written_number(words[3]) or words[3] == "0":
        return False
    return (words[1], words[2]) not in [row[:2] for row in watches]


def read_web(text):
    """The web of the text; refuses it with the first line at fault."""
    folk = []
    watches = []
    for at, line in enumerate(text.split("\n"), start=1):
        # Two spaces together, or one at an end, leave an empty word, which no form has.
        words = line.split(" ")
        if _is_folk_line(words, folk, watches):
            folk.append((words[1], int(words[2])))
        elif _is_watch_line(words, folk, watches):
            watches.append((words[1], words[2], int(words[3])))
        else:
            raise BadText(at)
    return Web(folk, watches)


def world_text(web, awake):
    """The names of the awake in folk order, or the sign for nobody."""
    return " ".join(tell(web, mask_of(web, awake))) or _NOBODY


def read_world(web, text):
    """The world of the text, which may name the awake in any order."""
    if text == _NOBODY:
        return ()
    names = text.split(" ")
    for at, name in enumerate(names):
        if name not in web or name in names[:at]:
            raise BadText(1)
    return tell(web, mask_of(web, names))
