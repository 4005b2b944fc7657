"""Audits of rows [81], books compared, and journals [83]."""

from drowsefolk.book import Book, is_filed
from drowsefolk.closing import closure
from drowsefolk.errors import BadRow, BadText
from drowsefolk.reach import same_class
from drowsefolk.texts import is_written_number, read_web, read_world, web_text, world_text

# The number of words of a row line of each kind; those behind the names are numbers.
_WORDS = {"turn": 2, "need": 3, "watch": 4, "come": 3, "go": 2}
_WITH_NUMBER = ("need", "watch", "come")


def audit(web, awake, rows):
    """The place of the first wrong row, from 1; 0 if a new book could file all of them."""
    book = Book(web, awake)
    try:
        book.run_all(rows)
    except BadRow as wrong:
        return wrong.place
    return 0


def replay_book(web, awake, rows):
    """The book with these rows; refuses the first wrong one."""
    book = Book(web, awake)
    book.run_all(rows)
    return book


def compare_books(one, other):
    """The first difference of two books, or None if they are equal."""
    if one.first_web != other.first_web:
        return ("web",)
    if one.first_world != other.first_world:
        return ("world",)
    for at in range(max(len(one), len(other))):
        if one.rows[at:at + 1] != other.rows[at:at + 1]:
            return ("row", at + 1)
    return None


def same_future(one, other):
    """True if the present webs are equal and the present worlds of one class."""
    return one.web == other.web and same_class(one.web, one.world, other.world)


def closures(book):
    """The closure of the world before all rows and behind each of them."""
    states = [book.at(place) for place in range(len(book) + 1)]
    return [closure(web, world) for web, world in states]


def journal(book):
    """The text of the first web, the first world and the rows; claim rows are left out."""
    lines = [" ".join([str(part) for part in row]) for row in book.rows if row[0] != "claim"]
    parts = [web_text(book.first_web), world_text(book.first_web, book.first_world)]
    if len(lines) > 0:
        parts.append("\n".join(lines))
    return "\n\n".join(parts)


def _check_lines(lines, number):
    """Refuses a text that ends before it has so many lines."""
    if len(lines) < number:
        raise BadText(len(lines) + 1)


def _web_lines(lines):
    """The lines before the first empty one, or all if none is empty."""
    return lines[:lines.index("")] if "" in lines else lines


def _world_in(web, lines, place):
    """The world of the line at this place; refuses a line that tells none."""
    try:
        return read_world(web, lines[place])
    except BadText:
        raise BadText(place + 1)


def _row_of(line):
    """The row of a row line, or an empty one if the line has none of the forms."""
    words = line.split(" ")
    if words[0] not in _WORDS or len(words) != _WORDS[words[0]]:
        return ()
    if words[0] not in _WITH_NUMBER:
        return tuple(words)
    if not is_written_number(words[-1]):
        return ()
    return tuple(words[:-1]) + (int(words[-1]),)


def read_journal(text):
    """The book of the text; refuses it with the first line at fault."""
    lines = text.split("\n")
    web_lines = _web_lines(lines)
    web = read_web("\n".join(web_lines))
    _check_lines(lines, len(web_lines) + 2)
    book = Book(web, _world_in(web, lines, len(web_lines) + 1))
    at = len(web_lines) + 2
    if len(lines) == at:
        return book
    if lines[at] != "":
        raise BadText(at + 1)
    _check_lines(lines, at + 2)
    for place in range(at + 1, len(lines)):
        row = _row_of(lines[place])
        if len(row) == 0 or not is_filed(book, row):
            raise BadText(place + 1)
    return book
