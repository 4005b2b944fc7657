"""Points 81 and 83, and books compared: audits, journals, futures and closures."""

import copy

from drowsefolk.audit import audit, closures, compare_books, journal, read_journal, replay_book, same_future
from drowsefolk.book import Book
from drowsefolk.errors import BadRow, BadText, Repeated, UnknownFolk
from drowsefolk.orders import Order
from drowsefolk.webs import Web, with_need
from tests.helpers import Case, EXAMPLE_TEXT, Row, Text, example_web, kinds, names_for, plain_web
from tests.slow import closure_of, distances_from, in_folk_order
from tests.test_book import EXAMPLE, REACH_ROW, ROWS, example_book, one_of_each

# Rows that are wrong in a book of the example web from the world a, behind any of ROWS.
WRONG_ROWS = (
    ("turn", "d"), ("turn", "x"), ("turn", ""), ("need", "x", 1), ("need", "a", -1), ("need", "a", 10000),
    ("need", "a", True), ("watch", "x", "a", 1), ("watch", "a", "x", 1), ("watch", "a", "a", 1), ("watch", "a", "a", 0),
    ("watch", "a", "b", -1), ("watch", "a", "b", 10000), ("watch", "a", "b", False), ("come", "a", 1), ("come", "A", 1),
    ("come", "f", -1), ("come", "f", True), ("go", "x"), ("go", "a"), ("what",), ("",), ("Turn", "b"), ("turns", "b"),
    ("what", 1, None, [["x"]], True), ("do", Order("rouse")), ("undo",), ("claim ", 1),
    ("claim", ("what",), (), "yes"), ("claim", ("what", 1, [None]), ("history", []), "bad"),
    ("claim", ("", ["x"]), ("nest", []), ""),
    ("claim", ("reach", ("x",), ("a",)), ("history", ()), "no"), ("claim", ("reach", ("b", "b"), ("a",)), (), "no"),
    ("claim", ("within", ("b",), ("a",), 200), ("history", ()), "yes"),
    ("claim", ("within", ("b",), ("b",), True), ("history", ()), "yes"),
    ("claim", ("fits", ("b",), ("a",), ("a",)), ("history", ()), "bad"),
    REACH_ROW[:3] + ("no",), REACH_ROW[:3] + ("bad",), REACH_ROW[:3] + ("",), REACH_ROW[:3] + ("Yes",),
    ("claim", REACH_ROW[1], ("history", ("a",)), "bad"), ("claim", REACH_ROW[1], ("history", ("a",)), "yes"),
    ("claim", REACH_ROW[1], (), "no"), ("claim", REACH_ROW[1], ("what", 1), "bad"),
)


class Audit(Case):
    def test_right_lists(self):
        for place in range(len(ROWS) + 1):
            self.same(audit(EXAMPLE, ["a"], ROWS[:place]), 0)
            book = replay_book(EXAMPLE, ["a"], ROWS[:place])
            self.assertIs(type(book), Book)
            self.same(book.rows, ROWS[:place])
            self.assertTrue(book.first_web == EXAMPLE)
            self.same(book.first_world, ("a",))
        self.assertTrue(replay_book(EXAMPLE, ["a"], ROWS) == one_of_each())

    def test_lists_and_tuples(self):
        rows = [["turn", "b"], ["claim", ["reach", ["b"], ["a", "c"]], ["history", ["a", "c", "b"]], "yes"]]
        self.same(audit(EXAMPLE, ("a",), rows), 0)
        self.same(replay_book(EXAMPLE, ("a",), tuple(rows)).rows, [("turn", "b"), REACH_ROW])

    def test_each_kind_of_wrong_row(self):
        for wrong in WRONG_ROWS:
            for place in (1, 2, 4, len(ROWS) + 1):
                rows = ROWS[:place - 1] + [wrong] + ROWS[place - 1:]
                with self.subTest(wrong=wrong, place=place):
                    self.same(audit(EXAMPLE, ["a"], rows), place)
                    self.same(audit(EXAMPLE, ["a"], tuple(rows + [("what",)])), place)
                    self.refuses(BadRow(place), replay_book, EXAMPLE, ["a"], rows)

    def test_rows_that_are_wrong_by_those_before(self):
        self.same(audit(EXAMPLE, ["a"], [("turn", "c"), ("turn", "b")]), 1)
        self.same(audit(EXAMPLE, ["a"], [("turn", "b"), ("turn", "c")]), 0)
        self.same(audit(EXAMPLE, ["a"], [("go", "d"), ("turn", "d")]), 2)
        self.same(audit(EXAMPLE, ["a"], [("come", "e", 0), ("turn", "e"), ("go", "e")]), 3)
        self.same(audit(EXAMPLE, ["a"], [("need", "c", 3), REACH_ROW]), 2)
        self.same(audit(EXAMPLE, ["a"], [REACH_ROW, ("need", "c", 3)]), 0)
        self.same(audit(plain_web(1), [], [("go", "m")]), 1)

    def test_the_sixty_first_row(self):
        rows = [("turn", "b")] * 60
        self.same(audit(EXAMPLE, ["a"], rows), 0)
        self.same(len(replay_book(EXAMPLE, ["a"], rows)), 60)
        for more in ([("turn", "b")], [REACH_ROW], [("turn", "b")] * 9, [("what",), ("turn", "d")]):
            self.same(audit(EXAMPLE, ["a"], rows + more), 61)
            self.refuses(BadRow(61), replay_book, EXAMPLE, ["a"], rows + more)
        self.same(audit(EXAMPLE, ["a"], rows[:59] + [("turn", "d"), ("turn", "b")]), 60)

    def test_the_world_is_refused_as_usual(self):
        for call in (audit, replay_book):
            self.refuses(UnknownFolk("x"), call, EXAMPLE, ["a", "x", "a"], [("what",)])
            self.refuses(Repeated("a"), call, EXAMPLE, ["a", "a", "x"], [("what",)])

    def test_nothing_that_is_passed_is_changed(self):
        rows = [list(row) for row in ROWS]
        kept = copy.deepcopy(rows)
        audit(EXAMPLE, ["a"], rows)
        book = replay_book(EXAMPLE, ["a"], rows)
        self.assertEqual(kinds(rows), kinds(kept))
        rows[0][1] = "q"
        rows.clear()
        self.same(book.rows, ROWS)
        self.assertTrue(EXAMPLE == example_web())

    def test_kinds_made_from_pythons_own(self):
        rows = Row([Row([Text("turn"), Text("b")])])
        self.same(audit(EXAMPLE, ["a"], rows), 0)
        self.same(replay_book(EXAMPLE, ["a"], rows).rows, [("turn", "b")])


class Compare(Case):
    def test_equal(self):
        self.assertIsNone(compare_books(one_of_each(), one_of_each()))
        self.assertIsNone(compare_books(example_book(), Book(EXAMPLE, ["a"])))

    def test_first_webs_and_first_worlds(self):
        heavy = Book(with_need(EXAMPLE, "d", 4), ["b"])
        self.same(compare_books(one_of_each(), heavy), ("web",))
        self.same(compare_books(heavy, one_of_each()), ("web",))
        turned = Book(Web([("b", 0), ("a", 0)]), [])
        self.same(compare_books(turned, Book(Web([("a", 0), ("b", 0)]), [])), ("web",))
        self.same(compare_books(one_of_each(), Book(EXAMPLE, ["b"])), ("world",))
        self.same(compare_books(Book(EXAMPLE, []), one_of_each()), ("world",))

    def test_rows(self):
        for place in range(len(ROWS)):
            shorter = replay_book(EXAMPLE, ["a"], ROWS[:place])
            self.same(compare_books(one_of_each(), shorter), ("row", place + 1))
            self.same(compare_books(shorter, one_of_each()), ("row", place + 1))
            other = shorter.twin()
            other.set_need("c", 9)
            other.run_all([("need", "d", 3)] * 9)
            self.same(compare_books(one_of_each(), other), ("row", place + 1))
            self.same(compare_books(other, one_of_each()), ("row", place + 1))

    def test_present_webs_do_not_count(self):
        one, other = example_book(), example_book()
        one.set_need("a", 1)
        self.assertTrue(one.web == other.web)
        self.same(compare_books(one, other), ("row", 1))

    def test_claims_that_differ_in_the_order_of_names(self):
        one, other = example_book(), example_book()
        one.claim(("thin", ["a", "d"]), ("thin", [("a", ["a", "b"]), ("d", ["d"])]))
        other.claim(("thin", ["d", "a"]), ("thin", [("a", ["a", "b"]), ("d", ["d"])]))
        self.same(compare_books(one, other), ("row", 1))


class SameFuture(Case):
    def test_ordinary(self):
        one, other = example_book(), example_book()
        self.assertIs(same_future(one, other), True)
        other.turn("b")
        self.assertIs(same_future(one, other), True)
        other.set_need("d", 2)
        self.assertIs(same_future(one, other), False)
        one.set_need("d", 2)
        self.assertIs(same_future(one, other), True)
        self.assertIs(same_future(one, Book(one.web, ["d"])), False)
        self.assertIs(same_future(Book(EXAMPLE, ["b"]), Book(EXAMPLE, ["c", "a"])), True)

    def test_other_folk(self):
        one, other = Book(plain_web(2), []), Book(plain_web(3), [])
        self.assertIs(same_future(one, other), False)
        other.go("x")
        self.assertIs(same_future(one, other), True)
        turned = Book(Web([("c", 0), ("m", 0)]), [])
        self.assertIs(same_future(one, turned), False)

    def test_all(self):
        for one in (("a",), ("b", "d"), ("c",), (), ("a", "c", "d")):
            for other in (("b",), ("d", "a"), ("c",), (), ("b", "c")):
                expected = in_folk_order(EXAMPLE, other) in distances_from(EXAMPLE, one)
                self.assertIs(same_future(Book(EXAMPLE, one), Book(EXAMPLE, other)), expected)


class Closures(Case):
    def test_ordinary(self):
        self.same(closures(example_book()), [("a", "b", "c")])
        book = one_of_each()
        book.set_need("d", 1)
        book.come("f", 0)
        expected = [closure_of(web, world) for web, world in [book.at(place) for place in range(9)]]
        self.same(closures(book), expected)
        self.same(expected, [
            ("a", "b", "c"), ("a", "b", "c"), ("a", "b", "c", "d"), ("a", "b", "c", "d"), ("a", "b", "c", "d"),
            ("a", "b", "c", "d"), ("a", "b", "c", "d"), ("a", "b", "c", "d"), ("a", "b", "c", "d", "f"),
        ])

    def test_a_turn_or_a_claim_leaves_it(self):
        book = example_book()
        book.do(Order("rouse"))
        book.run_all([REACH_ROW])
        self.same(closures(book), [("a", "b", "c")] * 4)

    def test_the_list_is_new(self):
        book = example_book()
        closures(book).clear()
        self.same(closures(book), [("a", "b", "c")])


class Journal(Case):
    def test_ordinary(self):
        self.same(journal(example_book()), EXAMPLE_TEXT + "\n\na")
        self.same(journal(Book(plain_web(1), [])), "folk m 0\n\n-")
        self.same(
            journal(one_of_each()),
            EXAMPLE_TEXT + "\n\na\n\nturn b\nneed d 2\nwatch d a 4\ncome e 7\ngo e",
        )
        self.same(journal(Book(EXAMPLE, ["d", "b"])), EXAMPLE_TEXT + "\n\nb d")

    def test_claim_rows_are_left_out(self):
        book = example_book()
        book.run_all([REACH_ROW])
        self.same(journal(book), EXAMPLE_TEXT + "\n\na")
        book.run_all([("turn", "b"), REACH_ROW, ("watch", "a", "b", 0)])
        self.same(journal(book), EXAMPLE_TEXT + "\n\na\n\nturn b\nwatch a b 0")

    def test_the_first_web_and_world(self):
        book = example_book()
        book.turn("b")
        book.go("d")
        self.assertTrue(journal(book).startswith(EXAMPLE_TEXT + "\n\na\n\n"))

    def test_read_again(self):
        for rows in ([], ROWS, ROWS[:1], [("need", "a", 0), ("need", "b", 9999)], [("turn", "b")] * 60):
            book = replay_book(EXAMPLE, ["a"], rows)
            again = read_journal(journal(book))
            self.assertIs(type(again), Book)
            self.same(again.rows, [row for row in rows if row[0] != "claim"])
            self.assertTrue(again.first_web == EXAMPLE and again.web == book.web)
            self.same((again.first_world, again.world), (book.first_world, book.world))
            self.same(journal(again), journal(book))

    def test_a_text_of_a_kind_made_from_pythons_own(self):
        book = read_journal(Text("folk a 1\n\na\n\nneed a 2"))
        self.same((book.web.folk, book.world, book.rows), ((("a", 2),), ("a",), [("need", "a", 2)]))


class ReadJournal(Case):
    def reads(self, text, *rows):
        self.same(read_journal(text).rows, list(rows))

    def fault(self, line, text):
        self.refuses(BadText(line), read_journal, text)

    def test_the_example(self):
        self.reads("folk a 1\n\n-")
        self.fault(5, "folk a 1\n\n-\n")
        self.fault(5, "folk a 1\n\n-\n\n")

    def test_forms_of_rows(self):
        text = "folk a 0\nfolk b 1\n\nb a\n\n"
        self.reads(text + "turn a", ("turn", "a"))
        self.reads(text + "need a 0\nneed b 9999", ("need", "a", 0), ("need", "b", 9999))
        self.reads(text + "watch a b 0\nwatch a b 12", ("watch", "a", "b", 0), ("watch", "a", "b", 12))
        self.reads(text + "come c 3\nturn a\ngo a", ("come", "c", 3), ("turn", "a"), ("go", "a"))
        # Names equal to words, and watch lines of the web in any order.
        self.reads("folk turn 0\nfolk watch 1\nwatch turn watch 1\n\n-\n\nturn turn\nturn watch", (
            "turn", "turn"), ("turn", "watch"))

    def test_the_web(self):
        self.fault(1, "")
        self.fault(1, "\n")
        self.fault(1, "\nfolk a 1\n\n-")
        self.fault(1, "folk A 1\n\n-")
        self.fault(1, "folk a 01\n\nx")
        self.fault(1, "watch a b 1\n\n-")
        self.fault(2, "folk a 1\nfolk a 1\n\nx\n\nx")
        self.fault(2, "folk a 1\n \n\n-")
        self.fault(3, "folk a 1\nfolk b 1\nwatch a b 0\n\n-")
        self.fault(2, "folk a 1\n-")
        names = names_for(11)
        self.fault(11, "\n".join([f"folk {name} 0" for name in names]) + "\n\n-")

    def test_a_text_that_ends_early(self):
        self.fault(2, "folk a 1")
        self.fault(3, "folk a 1\nfolk b 1")
        self.fault(3, "folk a 1\n")
        self.fault(4, "folk a 1\nfolk b 1\n")
        self.fault(5, "folk a 1\n\n-\n")
        self.fault(6, "folk a 1\nfolk b 1\n\n-\n")

    def test_the_world(self):
        for line in ("", "x", "a a", " a", "a ", "a  b", "A", "- ", "--", "a -", "b x", "folk a 1"):
            self.fault(4, "folk a 1\nfolk b 1\n\n" + line)
            self.fault(4, "folk a 1\nfolk b 1\n\n" + line + "\n\nturn x")
            self.fault(4, "folk a 1\nfolk b 1\n\n" + line + "\nx")
        self.same(read_journal("folk b 1\nfolk a 1\n\na b").world, ("b", "a"))

    def test_the_line_behind_the_world(self):
        for line in (" ", "turn a", "x", "-", "  "):
            self.fault(4, "folk a 1\n\n-\n" + line)
            self.fault(4, "folk a 1\n\n-\n" + line + "\n\nturn x")

    def test_empty_lines_in_each_place(self):
        text = "folk a 0\n\n-\n\nturn a\nturn a"
        self.reads(text, ("turn", "a"), ("turn", "a"))
        self.fault(1, "\n" + text)
        self.fault(3, "folk a 0\n\n\n-\n\nturn a")
        self.fault(5, "folk a 0\n\n-\n\n\nturn a")
        self.fault(6, "folk a 0\n\n-\n\nturn a\n\nturn a")
        self.fault(7, text + "\n")
        self.fault(7, text + "\n\n")
        self.fault(3, "folk a 0\n\n")
        self.fault(2, "folk a 0\nx\n\n-")

    def test_row_lines_of_no_form(self):
        for line in (
            "", " ", "turn", "turn a b", " turn a", "turn a ", "turn  a", "Turn a", "turns a", "need a", "need a 1 1",
            "need a  1", "watch a b", "watch a b 1 1", "come c", "come c 1 1", "go", "go a b", "claim a", "undo",
            "a", "-",
            "need a x", "need a 01", "need a +1", "need a -1", "need a 10000", "need a 1 ", "watch a b 00",
            "come c 1.", "turn a 1", "go b 0", "folk c 1", "rouse", "#", "# turn a", "need a ", "come c ", "watch a b ",
        ):
            self.fault(6, "folk a 0\nfolk b 1\n\na\n\n" + line)
            self.fault(7, "folk a 0\nfolk b 1\n\na\n\nturn a\n" + line + "\nx")

    def test_row_lines_that_would_be_refused(self):
        for line in (
            "turn b", "turn x", "turn ", "need x 1", "watch a x 1", "watch x a 1", "watch a a 1", "watch a a 0",
            "come a 1",
            "come A 1", "come 1a 1", "come abcdefghi 1", "go x", "go a", "come  1",
        ):
            self.fault(6, "folk a 0\nfolk b 1\n\na\n\n" + line)
            self.fault(7, "folk a 0\nfolk b 1\n\na\n\nneed a 0\n" + line + "\nturn x")
        self.fault(5, "folk a 0\n\n-\n\ngo a")
        self.fault(6, "folk a 0\n\n-\n\nturn a\ncome a 1")
        self.fault(7, "folk a 0\n\n-\n\ncome b 1\nturn a\ngo a")

    def test_a_sixty_first_row_line(self):
        head = "folk a 0\n\n-\n\n"
        self.same(len(read_journal(head + "\n".join(["turn a"] * 60))), 60)
        self.fault(65, head + "\n".join(["turn a"] * 61))
        self.fault(65, head + "\n".join(["turn a"] * 60 + ["x"]))
        self.fault(65, head + "\n".join(["turn a"] * 62))
        self.fault(65, head + "\n".join(["turn a"] * 60) + "\n")

    def test_the_first_line_at_fault(self):
        self.fault(1, "folk A 1\n\nx\nx\nx")
        self.fault(3, "folk a 1\n\nx\nx\nx")
        self.fault(4, "folk a 1\n\n-\nx\nx")
        self.fault(5, "folk a 1\n\n-\n\nx\nx")
        self.fault(2, "folk a 1\nfolk b x")
