"""The worked examples of all headings, and what holds over the whole program."""

import inspect
import itertools

from drowsefolk import errors
from drowsefolk.audit import audit, closures, journal, read_journal, replay_book, same_future
from drowsefolk.book import Book
from drowsefolk.claims import find_paper, verdict
from drowsefolk.classes import members
from drowsefolk.closing import closure, waking_order
from drowsefolk.deeds import turn
from drowsefolk.diaries import Diary
from drowsefolk.errors import DrowseError, TooLight
from drowsefolk.fewest import fewest_history
from drowsefolk.gluing import Surround
from drowsefolk.histories import History
from drowsefolk.lightest import keepers
from drowsefolk.nests import prime_nests
from drowsefolk.orders import Order
from drowsefolk.pictures import sure
from drowsefolk.pieces import Piece, table
from drowsefolk.renaming import Renaming
from drowsefolk.running import run_order
from drowsefolk.texts import read_web
from drowsefolk.webs import all_worlds
from tests.helpers import Case, EXAMPLE_TEXT, example_web, small_webs
from tests.slow import closure_of


class Examples(Case):
    def setUp(self):
        self.web = read_web(EXAMPLE_TEXT)

    def test_deeds(self):
        self.same(turn(self.web, ["a"], "b"), ("a", "b"))
        self.refuses(TooLight("c", 1, 1), turn, self.web, ["a"], "c")

    def test_closing(self):
        self.same(closure(self.web, ["b"]), ("a", "b", "c"))
        self.same(waking_order(self.web, ["b"]), ("a", "c"))

    def test_nests(self):
        self.same(prime_nests(self.web), [("d",), ("a", "b"), ("a", "b", "c")])

    def test_fewest(self):
        self.same(fewest_history(self.web, ["a"], ["a", "c"]).deeds, ("b", "c", "b"))

    def test_pictures(self):
        self.same(sure(self.web, ["a"], ["c"], []), (("c",), ("d",), ("a", "b")))

    def test_classes(self):
        self.same(
            members(self.web, ["b"]), [("a",), ("b",), ("a", "b"), ("a", "c"), ("b", "c"), ("a", "b", "c")]
        )

    def test_lightest(self):
        self.same(keepers(self.web, "c"), [("a", "b")])

    def test_pieces(self):
        self.same(table(Piece(self.web, ["b", "c"])), [
            ((), (), (1, 2)), (("b",), ("b", "c"), (0, 0)), (("c",), ("c",), (1, 0)),
            (("b", "c"), ("b", "c"), (0, 0)),
        ])

    def test_running(self):
        self.same(
            run_order(self.web, ["a"], Order("each\ntry *\nend")), ("done", ("a", "b", "c"), ("b", "c"), 0, None, 0)
        )


class WholeProgram(Case):
    def test_no_error_class_stands_under_another_one(self):
        found = [value for value in vars(errors).values() if inspect.isclass(value)]
        self.assertEqual(len(found), 35)
        for one, other in itertools.permutations(found, 2):
            self.assertEqual(issubclass(one, other), other is DrowseError)
        self.assertEqual(DrowseError.__bases__, (ValueError,))

    def test_objects_are_not_hashed(self):
        web = example_web()
        for made in (
            web, Renaming([("a", "b")]), History(web, [], []), Piece(web, []), Surround([], [], []), Diary(web, [], []),
            Order(""), Book(web, []),
        ):
            with self.assertRaises(TypeError):
                hash(made)
            self.assertIs(made == made, True)
            self.assertIs(made != made, False)

    def test_a_book_of_many_rows(self):
        """Claims about each world are filed, the web is changed, and all is audited, written and read."""
        for web in small_webs()[::4]:
            worlds = all_worlds(web)
            book = Book(web, worlds[-1])
            for at, world in enumerate(worlds[:6]):
                for claim in (
                    ("reach", book.world, world), ("within", world, book.world, at), ("fits", world, world[:1], ()),
                    ("thin", world),
                ):
                    paper = find_paper(book.web, claim)
                    self.same(book.claim(claim, paper), verdict(book.web, claim, paper))
                name = web.names[at % len(web.names)]
                book.set_need(name, at)
                book.do(Order(f"rouse\ntry {name}"))
            self.same(audit(web, worlds[-1], book.rows), 0)
            again = replay_book(web, worlds[-1], book.rows)
            self.assertTrue(again == book)
            self.same(again.standing(), book.standing())
            self.assertIs(same_future(again, book), True)
            read = read_journal(journal(book))
            self.assertTrue(read.web == book.web)
            self.same(read.world, book.world)
            self.same(closures(read)[-1], closure_of(book.web, book.world))
            while len(book):
                row = book.undo()
                self.same(row, again.rows[len(book)])
            self.assertTrue(book == Book(web, worlds[-1]))
