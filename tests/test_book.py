"""Points 79, 80 and 82: books, the claims that stand in them, and undoing."""

import copy

from drowsefolk.book import Book
from drowsefolk.claims import find_paper, verdict
from drowsefolk.errors import (
    BadClaim, BadCount, BadName, BadNumber, BadPaper, BadRow, Contrary, NothingToUndo, NotOneClass, Repeated,
    SelfWatch, StillAwake, TooLight, Unfinished, UnknownFolk,
)
from drowsefolk.fewest import fewest
from drowsefolk.orders import Order
from drowsefolk.reach import parting_nest
from drowsefolk.webs import Web, with_folk, with_need, with_watch, without_folk
from tests.helpers import Case, Number, Row, Text, example_web, full_web, kinds, names_for, plain_web, subsets
from tests.slow import distances_from

EXAMPLE = example_web()
REACH = ("reach", ["b"], ["a", "c"])
REACH_PAPER = ("history", ["a", "c", "b"])
REACH_ROW = ("claim", ("reach", ("b",), ("a", "c")), ("history", ("a", "c", "b")), "yes")


def example_book():
    """A book of the example web from the world a."""
    return Book(example_web(), ["a"])


def one_of_each():
    """A book with a row of each kind."""
    book = example_book()
    book.turn("b")
    book.set_need("d", 2)
    book.set_watch("d", "a", 4)
    book.come("e", 7)
    book.go("e")
    book.claim(REACH, REACH_PAPER)
    return book


ROWS = [
    ("turn", "b"), ("need", "d", 2), ("watch", "d", "a", 4), ("come", "e", 7), ("go", "e"), REACH_ROW,
]


def full_book(web=None, awake=("a",)):
    """A book with sixty rows."""
    book = Book(EXAMPLE if web is None else web, awake)
    name = book.web.names[-1]
    for _ in range(60):
        book.set_need(name, dict(book.web.folk)[name])
    return book


def state_of(book):
    """All that a book tells of itself."""
    return kinds([
        book.web.folk, book.web.watches, book.world, book.first_web.folk, book.first_web.watches, book.first_world,
        book.rows, len(book), book.claims(), book.standing(),
        [(web.folk, web.watches, world) for web, world in (book.at(place) for place in range(len(book) + 1))],
    ])


class BookCase(Case):
    def leaves(self, book, expected, call, *given, **named):
        """The call is refused and leaves the book as it was."""
        before = state_of(book)
        self.refuses(expected, call, *given, **named)
        self.assertEqual(state_of(book), before)


class Building(BookCase):
    def test_ordinary(self):
        book = Book(EXAMPLE, ["c", "a"])
        self.assertTrue(book.web == EXAMPLE and book.first_web == EXAMPLE)
        self.same((book.world, book.first_world, book.rows, len(book)), (("a", "c"), ("a", "c"), [], 0))
        self.same((book.claims(), book.standing()), ([], []))

    def test_refused(self):
        self.refuses(UnknownFolk("x"), Book, EXAMPLE, ["a", "x", "a"])
        self.refuses(Repeated("a"), Book, EXAMPLE, ["a", "a", "x"])

    def test_the_properties_cannot_be_set(self):
        book = one_of_each()
        for name in ("web", "world", "first_web", "first_world", "rows"):
            with self.assertRaises(AttributeError):
                setattr(book, name, ())
        self.same(book.rows, ROWS)

    def test_rows_of_each_kind(self):
        book = one_of_each()
        self.same(book.rows, ROWS)
        self.same(len(book), 6)
        self.same(book.world, ("a", "b"))
        self.assertTrue(book.web == with_watch(with_need(EXAMPLE, "d", 2), "d", "a", 4))
        self.assertTrue(book.first_web == EXAMPLE)
        self.same(book.first_world, ("a",))

    def test_kinds_made_from_pythons_own_do_not_stay(self):
        book = Book(EXAMPLE, Row([Text("a")]))
        book.turn(Text("b"))
        book.set_need(Text("d"), Number(2))
        book.set_watch(Text("d"), Text("a"), Number(4))
        book.come(Text("e"), Number(7))
        book.go(Text("e"))
        book.claim(
            Row([Text("reach"), Row([Text("b")]), [Text("a"), Text("c")]]),
            Row([Text("history"), [Text("a"), Text("c"), Text("b")]]),
        )
        self.same(book.rows, ROWS)


class Turn(BookCase):
    def test_ordinary(self):
        book = example_book()
        self.same(book.turn("b"), ("a", "b"))
        self.same(book.turn("c"), ("a", "b", "c"))
        self.same(book.turn("b"), ("a", "c"))
        self.same(book.rows, [("turn", "b"), ("turn", "c"), ("turn", "b")])
        self.same(book.world, ("a", "c"))

    def test_refused(self):
        book = example_book()
        for name in ("x", "", "A"):
            self.leaves(book, UnknownFolk(name), book.turn, name)
        self.leaves(book, TooLight("c", 1, 1), book.turn, "c")
        self.leaves(book, TooLight("a", 1, 1), book.turn, "a")
        book.turn("b")
        # The place is that in the one deed, not in the book.
        self.leaves(book, TooLight("d", 3, 1), book.turn, "d")

    def test_by_the_present_web(self):
        book = example_book()
        book.set_need("d", 0)
        self.same(book.turn("d"), ("a", "d"))
        book.come("e", 0)
        self.same(book.turn("e"), ("a", "d", "e"))
        self.leaves(book, UnknownFolk("f"), book.turn, "f")


class Changes(BookCase):
    def test_needs(self):
        book = example_book()
        found = book.set_need("d", 0)
        self.assertTrue(found == with_need(EXAMPLE, "d", 0) and found == book.web)
        # A row is filed also if nothing changes.
        self.assertTrue(book.set_need("d", 0) == found)
        self.same(book.rows, [("need", "d", 0), ("need", "d", 0)])
        self.leaves(book, UnknownFolk("x"), book.set_need, "x", -1)
        for need in (-1, 10000, True, False, 10 ** 59):
            self.leaves(book, BadNumber(need), book.set_need, "a", need)

    def test_watches(self):
        book = example_book()
        self.assertTrue(book.set_watch("d", "a", 9) == with_watch(EXAMPLE, "d", "a", 9))
        self.assertTrue(book.set_watch("d", "a", 0) == EXAMPLE)
        self.assertTrue(book.set_watch("d", "a", 0) == EXAMPLE)
        self.same(book.rows, [("watch", "d", "a", 9), ("watch", "d", "a", 0), ("watch", "d", "a", 0)])
        self.leaves(book, UnknownFolk("x"), book.set_watch, "x", "y", -1)
        self.leaves(book, UnknownFolk("y"), book.set_watch, "a", "y", -1)
        for weight in (-1, 10000, True, False):
            self.leaves(book, BadNumber(weight), book.set_watch, "a", "a", weight)
        self.leaves(book, SelfWatch("a"), book.set_watch, "a", "a", 0)
        large = Book(full_web(24), [])
        pair = [(one, other) for one in names_for(6) for other in names_for(6) if large.web.weight(one, other) == 0][6]
        self.leaves(large, BadCount("watches", 25), large.set_watch, *pair, 1)
        self.assertTrue(large.set_watch(*pair, 0) == full_web(24))

    def test_coming(self):
        book = example_book()
        self.assertTrue(book.come("e", 0) == with_folk(EXAMPLE, "e", 0))
        self.same(book.world, ("a",))
        self.leaves(book, BadName("E"), book.come, "E", -1)
        self.leaves(book, BadNumber(-1), book.come, "e", -1)
        self.leaves(book, BadNumber(True), book.come, "f", True)
        self.leaves(book, Repeated("e"), book.come, "e", 0)
        ten = Book(plain_web(10), [])
        self.leaves(ten, BadCount("folk", 11), ten.come, "q", 0)
        self.leaves(ten, Repeated("m"), ten.come, "m", 0)

    def test_going(self):
        book = example_book()
        self.assertTrue(book.go("b") == without_folk(EXAMPLE, "b"))
        self.same(book.world, ("a",))
        self.leaves(book, UnknownFolk("b"), book.go, "b")
        self.leaves(book, StillAwake("a"), book.go, "a")
        book.go("d")
        book.go("c")
        self.leaves(book, BadCount("folk", 0), book.go, "a")
        self.same(book.rows, [("go", "b"), ("go", "d"), ("go", "c")])

    def test_the_last_one_who_is_awake(self):
        # BadCount goes before StillAwake.
        book = Book(plain_web(1), ["m"])
        self.leaves(book, BadCount("folk", 0), book.go, "m")
        other = Book(plain_web(1), [])
        self.leaves(other, BadCount("folk", 0), other.go, "m")

    def test_the_world_when_somebody_before_goes(self):
        book = Book(plain_web(4), ["a", "x"])
        book.go("m")
        self.same(book.world, ("x", "a"))
        book.go("c")
        self.same(book.turn("x"), ("a",))

    def test_one_who_comes_again_comes_last(self):
        book = example_book()
        book.go("c")
        self.assertTrue(book.come("c", 2) == Web(
            [("a", 1), ("b", 1), ("d", 3), ("c", 2)], [("b", "a", 1), ("a", "b", 1)],
        ))


class Claims(BookCase):
    def test_ordinary(self):
        book = example_book()
        self.same(book.claim(REACH, REACH_PAPER), "yes")
        self.same(book.claim(("reach", ["b"], ["d"]), ("nest", ["b", "a"])), "no")
        self.same(book.rows, [REACH_ROW, ("claim", ("reach", ("b",), ("d",)), ("nest", ("b", "a")), "no")])
        self.same(book.claims(), [
            (1, ("reach", ("b",), ("a", "c")), "yes"), (2, ("reach", ("b",), ("d",)), "no"),
        ])
        self.same(book.standing(), [1, 2])
        self.same(book.world, ("a",))
        self.assertTrue(book.web == EXAMPLE)

    def test_the_order_of_names_stays(self):
        book = example_book()
        book.claim(["fits", ["b", "a"], ["c"], []], ["history", ["c"]])
        book.claim(["fits", ("a", "b"), ["c"], []], ("history", ["c"]))
        self.same(book.rows[0][1], ("fits", ("b", "a"), ("c",), ()))
        self.same(book.rows[1][1], ("fits", ("a", "b"), ("c",), ()))
        self.assertNotEqual(book.rows[0], book.rows[1])

    def test_tuples_all_through(self):
        book = example_book()
        rows = [[list(names), number] for names, number in find_paper(EXAMPLE, ("within", ["b"], ["a", "c"], 2))[1]]
        book.claim(["within", ["b"], ["c", "a"], 2], ["table", rows])
        told = tuple((tuple(names), number) for names, number in rows)
        self.same(book.rows, [("claim", ("within", ("b",), ("c", "a"), 2), ("table", told), "no")])
        rows[0][0].append("q")
        rows.clear()
        self.same(book.rows, [("claim", ("within", ("b",), ("c", "a"), 2), ("table", told), "no")])
        book.claim(["thin", ["b"]], ["thin", [["b", ["b", "a"]]]])
        self.same(book.rows[1], ("claim", ("thin", ("b",)), ("thin", (("b", ("b", "a")),)), "yes"))

    def test_names_in_met_that_nothing_is_asked_of(self):
        book = example_book()
        self.same(book.claim(("fits", ["b"], ["d"], []), ("nests", ["d"], ["x", "x", "a"])), "no")
        self.same(book.rows[0][2], ("nests", ("d",), ("x", "x", "a")))
        self.same(book.standing(), [1])

    def test_refused(self):
        book = example_book()
        self.leaves(book, BadClaim("what"), book.claim, ("what", 1, ["x"]), ())
        self.leaves(book, UnknownFolk("x"), book.claim, ("reach", ["x"], ["y"]), ())
        self.leaves(book, Repeated("b"), book.claim, ("reach", ["b", "b"], ["y"]), ())
        self.leaves(book, BadNumber(200), book.claim, ("within", ["b"], ["a"], 200), ())
        self.leaves(book, BadNumber(True), book.claim, ("within", ["b"], ["a"], True), ())
        self.leaves(book, Contrary("a"), book.claim, ("fits", ["b"], ["a"], ["a"]), ())
        for paper in ((), ("history", ["x"]), ("nest", ["d"]), ("history", ["a", "c"]), ("what", 1), ("history",)):
            self.leaves(book, BadPaper(), book.claim, REACH, paper)


class Standing(BookCase):
    def test_a_claim_that_ceases_to_stand_and_stands_again(self):
        book = example_book()
        book.claim(REACH, REACH_PAPER)
        book.set_need("c", 3)
        self.same(book.standing(), [])
        book.claim(("reach", ["b"], ["a", "c"]), ("nest", ["c"]))
        self.same(book.standing(), [3])
        book.set_need("c", 1)
        self.same(book.standing(), [1])
        self.same(book.claims()[1], (3, ("reach", ("b",), ("a", "c")), "no"))

    def test_a_claim_that_is_no_longer_true(self):
        # Another paper would show now that it does not hold; the one that was filed is bad.
        book = Book(plain_web(2), [])
        claim = ("fits", [], ["m"], [])
        book.claim(claim, ("history", ["m"]))
        book.set_need("m", 1)
        self.same(book.standing(), [])
        self.same(verdict(book.web, claim, ("nests", ["m"], [])), "no")

    def test_a_name_that_went_and_came_again(self):
        book = example_book()
        book.claim(("reach", ["d"], ["d"]), ("history", []))
        book.claim(("thin", ["d"]), ("thin", [("d", ["d"])]))
        book.go("d")
        self.same(book.standing(), [])
        book.come("d", 1)
        self.same(book.standing(), [1, 2])
        book.set_need("d", 0)
        self.same(book.standing(), [1])

    def test_an_unknown_name_in_the_paper_alone(self):
        book = Book(EXAMPLE, [])
        book.claim(("reach", ["b"], ["b"]), ("history", ["a", "a"]))
        book.claim(("reach", ["b"], ["b"]), ("history", []))
        book.claim(("reach", ["b"], ["d"]), ("nest", ["a", "b"]))
        self.same(book.standing(), [1, 2, 3])
        book.go("a")
        self.same(book.standing(), [2])
        book.undo()
        self.same(book.standing(), [1, 2, 3])
        # Back again, but without watches: b and a no longer wake each other, and each is a nest.
        book.go("a")
        book.come("a", 1)
        self.same(book.standing(), [2, 3])

    def test_an_unknown_name_in_met(self):
        book = Book(EXAMPLE, [])
        claim = ("fits", ["b"], ["d"], [])
        book.claim(claim, ("nests", ["d"], ["c", "x"]))
        book.go("c")
        # Nothing is asked of met.
        self.same(book.standing(), [1])
        second = ("fits", ["b"], [], ["a", "b"])
        book.claim(second, ("nests", [], ["a", "b"]))
        book.go("d")
        self.same(book.standing(), [3])
        book.come("d", 1)
        self.same(book.standing(), [1, 3])
        book.set_need("d", 0)
        # Now d is in no nest.
        self.same(book.standing(), [3])

    def test_against_the_words(self):
        book = one_of_each()
        for claim in (
            ("reach", ["b"], ["d"]), ("within", ["a"], ["a", "c"], 2), ("within", ["b"], ["a"], 2),
            ("fits", ["b"], ["c"], ["a"]), ("fits", [], ["c"], ["a"]), ("thin", ["a", "b"]), ("thin", ["c"]),
        ):
            book.claim(claim, find_paper(book.web, claim))
        for change in (
            lambda: book.set_need("a", 0), lambda: book.set_need("c", 9), lambda: book.set_watch("b", "a", 3),
            lambda: book.set_watch("a", "b", 0), lambda: book.come("f", 0), lambda: book.go("d"),
            lambda: book.come("d", 3), lambda: book.set_need("c", 2), lambda: book.set_watch("c", "d", 1),
        ):
            change()
            expected = []
            for place, row in enumerate(book.rows, start=1):
                if row[0] == "claim":
                    names = {name for part in row[1][1:] if isinstance(part, tuple) for name in part}
                    if names <= set(book.web.names) and verdict(book.web, row[1], row[2]) == row[3]:
                        expected.append(place)
            self.same(book.standing(), expected)


class Do(BookCase):
    def test_ordinary(self):
        book = example_book()
        self.same(book.do(Order("each\ntry *\nend")), ("b", "c"))
        self.same(book.rows, [("turn", "b"), ("turn", "c")])
        self.same(book.world, ("a", "b", "c"))
        self.same(book.at(1)[1], ("a", "b"))
        self.same(book.do(Order("")), ())
        self.same(book.do(Order("wake a\ntry d"), ticks=2), ())
        self.same(len(book), 2)

    def test_unfinished(self):
        book = example_book()
        self.leaves(book, Unfinished("refused", 2), book.do, Order("wake b\n#\nwake d"))
        self.leaves(book, Unfinished("endless", 2), book.do, Order("each\ntry *\nend"), ticks=3)
        self.leaves(book, Unfinished("endless", 1), book.do, Order("while awake a\ntry b\nend"))

    def test_refused(self):
        book = example_book()
        for ticks in (0, 91, -1, True, False):
            self.leaves(book, BadNumber(ticks), book.do, Order("wake q"), ticks=ticks)
        self.leaves(book, UnknownFolk("q"), book.do, Order("wake d\nwake q"))
        with self.assertRaises(TypeError):
            book.do(Order(""), 90)

    def test_by_the_present_web(self):
        book = example_book()
        book.come("e", 0)
        self.same(book.do(Order("wake e")), ("e",))
        book.do(Order("sleep e"))
        book.go("e")
        self.leaves(book, UnknownFolk("e"), book.do, Order("wake e"))

    def test_many_rows(self):
        book = example_book()
        order = Order("\n".join(["turn b"] * 40))
        self.same(len(book.do(order)), 40)
        self.leaves(book, BadCount("rows", 61), book.do, order)
        self.same(len(book.do(Order("\n".join(["turn b"] * 20)))), 20)
        self.leaves(book, BadCount("rows", 61), book.do, Order("turn b"))
        # Nothing would be filed, so nothing is refused.
        self.same(book.do(Order("wake a\ntry d")), ())
        self.leaves(book, Unfinished("refused", 1), book.do, Order("turn d"))


class MostRows(BookCase):
    def test_the_sixty_first_row(self):
        book = full_book()
        self.same(len(book), 60)
        error = BadCount("rows", 61)
        self.leaves(book, error, book.turn, "b")
        self.leaves(book, error, book.set_need, "a", 3)
        self.leaves(book, error, book.set_watch, "a", "b", 3)
        self.leaves(book, error, book.come, "e", 3)
        self.leaves(book, error, book.go, "b")
        self.leaves(book, error, book.claim, REACH, REACH_PAPER)
        self.leaves(book, error, book.do, Order("wake b"))
        self.leaves(book, BadRow(1), book.run_all, [("turn", "b")])

    def test_after_all_other_refusals(self):
        book = full_book()
        self.leaves(book, UnknownFolk("x"), book.turn, "x")
        self.leaves(book, TooLight("d", 3, 1), book.turn, "d")
        self.leaves(book, BadNumber(True), book.set_need, "a", True)
        self.leaves(book, SelfWatch("a"), book.set_watch, "a", "a", 3)
        self.leaves(book, Repeated("a"), book.come, "a", 3)
        self.leaves(book, StillAwake("a"), book.go, "a")
        self.leaves(book, BadPaper(), book.claim, REACH, ())
        self.leaves(book, Contrary("a"), book.claim, ("fits", [], ["a"], ["a"]), ())
        self.leaves(book, Unfinished("refused", 1), book.do, Order("wake d"))
        one = full_book(plain_web(1), ())
        self.leaves(one, BadCount("folk", 0), one.go, "m")

    def test_calls_that_add_no_row(self):
        book = full_book()
        self.same(book.do(Order("wake a")), ())
        self.same(book.run_all([]), 0)
        self.same(book.standing(), [])
        self.same(len(book.twin()), 60)
        book.undo()
        self.same(book.turn("b"), ("a", "b"))
        self.same(len(book), 60)


class RunAll(BookCase):
    def test_ordinary(self):
        book = example_book()
        self.same(book.run_all(ROWS), 6)
        self.assertTrue(book == one_of_each())
        self.assertEqual(state_of(book), state_of(one_of_each()))
        self.same(book.run_all([]), 0)
        self.same(book.run_all(()), 0)
        self.same(book.run_all([["turn", "b"]]), 1)
        self.same(book.rows, ROWS + [("turn", "b")])

    def test_all_or_nothing(self):
        for wrong in (
            ("turn", "d"), ("turn", "x"), ("need", "a", -1), ("need", "a", True), ("watch", "a", "a", 1),
            ("come", "a", 1), ("come", "A", 1), ("go", "x"), ("go", "a"), ("what",), ("", 1, 2), ("turns", "b"),
            ("claim", ("what", 3), (), "yes"), REACH_ROW[:3] + ("no",), REACH_ROW[:3] + ("bad",),
            REACH_ROW[:3] + ("",), ("claim", REACH_ROW[1], ("history", ("a",)), "bad"),
            ("claim", REACH_ROW[1], ("history", ("a",)), "yes"), ("claim", ("thin", ("x",)), (), "no"),
        ):
            for place in range(1, 5):
                book = example_book()
                book.set_need("a", 1)
                rows = ROWS[:place - 1] + [wrong] + ROWS[place - 1:]
                self.leaves(book, BadRow(place), book.run_all, rows)
                self.leaves(book, BadRow(1), book.run_all, [wrong])

    def test_the_sixty_first_row(self):
        book = example_book()
        self.same(book.run_all([("turn", "b")] * 58), 58)
        self.leaves(book, BadRow(3), book.run_all, [("turn", "b")] * 3)
        self.leaves(book, BadRow(3), book.run_all, [("turn", "b")] * 2 + [("what",)])
        self.leaves(book, BadRow(2), book.run_all, [("turn", "b"), ("what",), ("turn", "b")])
        self.same(book.run_all([("turn", "b")] * 2), 2)
        self.leaves(book, BadRow(1), book.run_all, [("turn", "b")])

    def test_its_own_rows(self):
        book = one_of_each()
        book.turn("b")
        self.same(book.run_all(book.rows), 7)
        self.same(len(book), 14)

    def test_rows_are_not_changed(self):
        rows = [["turn", "b"], ["claim", ["reach", ["b"], ["a", "c"]], ["history", ["a", "c", "b"]], "yes"]]
        kept = copy.deepcopy(rows)
        book = example_book()
        book.run_all(rows)
        self.assertEqual(kinds(rows), kinds(kept))
        rows[1][1][1].append("q")
        self.same(book.rows, [("turn", "b"), REACH_ROW])


class Undo(BookCase):
    def test_row_by_row(self):
        book = one_of_each()
        states = [state_of(book)]
        for row in ROWS[::-1]:
            self.same(book.undo(), row)
            states.append(state_of(book))
        self.assertTrue(book == example_book())
        self.assertEqual(states[-1], state_of(example_book()))
        self.leaves(book, NothingToUndo(), book.undo)
        for place, row in enumerate(ROWS):
            self.assertEqual(state_of(book), states[-1 - place])
            book.run_all([row])

    def test_rows_that_were_filed_together(self):
        book = example_book()
        book.do(Order("each\ntry *\nend"))
        self.same(book.undo(), ("turn", "c"))
        self.same(book.world, ("a", "b"))
        book.run_all(ROWS[1:])
        self.same(book.undo(), REACH_ROW)
        self.same(book.undo(), ("go", "e"))
        self.assertIn("e", book.web.names)
        self.same(book.rows, [("turn", "b")] + ROWS[1:4])

    def test_no_trace(self):
        book, other = example_book(), example_book()
        book.turn("b")
        book.undo()
        self.assertTrue(book == other)
        book.set_need("d", 1)
        other.set_need("d", 1)
        self.assertTrue(book == other)
        self.same(book.rows, [("need", "d", 1)])

    def test_one_who_went_stands_at_the_old_place(self):
        book = example_book()
        book.go("b")
        book.undo()
        self.assertTrue(book.web == EXAMPLE)


class Asking(BookCase):
    def test_at(self):
        book = one_of_each()
        for place in range(7):
            shorter = Book(EXAMPLE, ["a"])
            shorter.run_all(ROWS[:place])
            web, world = book.at(place)
            self.assertTrue(web == shorter.web)
            self.same(world, shorter.world)
            self.assertIs(type(book.at(place)), tuple)
            self.assertEqual(len(book.at(place)), 2)
        for place in (-1, 7, True, False, 10 ** 59):
            self.leaves(book, BadNumber(place), book.at, place)
        self.refuses(BadNumber(1), example_book().at, 1)

    def test_can_come_and_fewest_to(self):
        book = example_book()
        for rows in ([], [("turn", "b")], [("need", "d", 2)], [("come", "e", 0)], [("go", "d")]):
            book.run_all(rows)
            found = distances_from(book.web, book.world)
            for target in subsets(book.web.names):
                self.same(book.can_come(target[::-1]), target in found)
                if target in found:
                    self.same(book.fewest_to(target[::-1]), found[target])
                    self.same(fewest(book.web, book.world, target), found[target])
                else:
                    nest = parting_nest(book.web, book.world, target)
                    self.leaves(book, NotOneClass(nest), book.fewest_to, target)
            for call in (book.can_come, book.fewest_to):
                self.leaves(book, UnknownFolk("x"), call, ["b", "x"])
                self.leaves(book, Repeated("b"), call, ["b", "b", "x"])
        self.leaves(book, UnknownFolk("d"), book.can_come, ["d"])

    def test_twin(self):
        book = one_of_each()
        other = book.twin()
        self.assertTrue(book == other)
        self.assertIsNot(book, other)
        self.assertEqual(state_of(book), state_of(other))
        before = state_of(book)
        other.turn("b")
        other.undo()
        other.undo()
        other.come("f", 1)
        self.assertEqual(state_of(book), before)
        self.assertFalse(book == other)
        again = book.twin()
        book.undo()
        book.set_need("a", 0)
        self.assertEqual(state_of(again), before)

    def test_equality(self):
        book = one_of_each()
        self.assertIs(book == one_of_each(), True)
        self.assertIs(book != one_of_each(), False)
        shorter = one_of_each()
        shorter.undo()
        later = one_of_each()
        later.turn("b")
        turned = example_book()
        turned.run_all([ROWS[1], ROWS[0]] + ROWS[2:])
        for other in (shorter, later, turned, example_book(), Book(EXAMPLE, ["b"])):
            self.assertIs(book == other, False)
            self.assertIs(other == book, False)
            self.assertIs(book != other, True)
        # Present web and world are equal, but not the first ones.
        self.assertIs(Book(EXAMPLE, ["a"]) == Book(with_need(EXAMPLE, "d", 2), ["a"]), False)
        self.assertIs(example_book() == Book(EXAMPLE, ["a"]), True)
        self.assertIs(example_book() == Book(EXAMPLE, ["b"]), False)

    def test_lists_that_are_told_are_new(self):
        book = one_of_each()
        before = state_of(book)
        for told in (book.rows, book.claims(), book.standing()):
            told.append("more")
            told.clear()
        self.assertEqual(state_of(book), before)

    def test_the_web_that_is_passed(self):
        web, awake = example_web(), ["b", "a"]
        book = Book(web, awake)
        awake.append("d")
        book.set_need("a", 9)
        self.assertTrue(web == EXAMPLE and book.first_web == EXAMPLE)
        self.same(book.world, ("a", "b"))

    def test_equal_answers_when_asked_again(self):
        book = one_of_each()
        before = state_of(book)
        book.twin().do(Order("rouse"))
        book.can_come(["a"])
        book.fewest_to(["a"])
        self.assertEqual(state_of(book), before)
