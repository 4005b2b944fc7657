"""Points 54 to 57: surrounds, gluing, outer closures, neighbours and split webs."""

import itertools

from drowsefolk.errors import (
    BadCount, BadName, BadNumber, BorderWatch, Crossing, OnBorder, OtherFolk, Outside, Repeated, SelfWatch, TooLarge,
    UnknownFolk,
)
from drowsefolk.gluing import Surround, closure_by_table, glue, neighbours, outer_closure, split_web
from drowsefolk.pieces import Piece, table
from drowsefolk.webs import Web, sub_web
from tests.helpers import (
    Case, Number, Row, Text, example_web, full_web, kinds, names_for, plain_web, small_webs, subsets,
)
from tests.slow import closure_of, in_folk_order, outside_of


def some_surround():
    """A surround with two on the border and two outer folk, who watch each other."""
    return Surround(
        ["b", "c"], [("z", 2), ("y", 1)],
        [("y", "z", 1), ("b", "y", 1), ("z", "c", 3), ("c", "z", 1), ("z", "b", 1), ("z", "y", 2)],
    )


def some_piece():
    """The example web with b and c on the border."""
    return Piece(example_web(), ["b", "c"])


def outer_folk(number):
    """So many pairs of outer folk."""
    return [(f"o{at}", at) for at in range(number)]


class Surrounds(Case):
    def test_ordinary(self):
        found = some_surround()
        self.same(found.border, ("b", "c"))
        self.same(found.folk, (("z", 2), ("y", 1)))
        # Pair order: by the watched one in border and outer folk, then by the watcher.
        self.same(found.watches, (
            ("z", "b", 1), ("z", "c", 3), ("c", "z", 1), ("y", "z", 1), ("b", "y", 1), ("z", "y", 2),
        ))

    def test_0_to_3_on_the_border_in_the_order_passed(self):
        for border in ([], ["z"], ["z", "a"], ["z", "a", "m"], ("m", "a", "z")):
            self.same(Surround(border, [], []).border, tuple(border))
        self.refuses(BadCount("border", 4), Surround, ["a", "b", "c", "d"], [], [])

    def test_0_to_7_outer_folk_in_the_order_passed(self):
        for number in range(8):
            found = Surround(["a"], outer_folk(number)[::-1], [])
            self.same(found.folk, tuple(outer_folk(number)[::-1]))
            self.same(found.watches, ())
        for number in (8, 9, 12):
            self.refuses(BadCount("outer", number), Surround, ["a"], outer_folk(number), [])

    def test_0_to_24_watches(self):
        names = [name for name, _ in outer_folk(7)]
        pairs = [(one, other, 1) for one in names for other in names if one != other]
        self.same(len(Surround([], outer_folk(7), pairs[:24]).watches), 24)
        self.same(len(Surround([], outer_folk(7), []).watches), 0)
        self.refuses(BadCount("watches", 25), Surround, [], outer_folk(7), pairs[:25])
        self.refuses(BadCount("watches", 42), Surround, [], outer_folk(7), pairs)

    def test_watches_in_any_order(self):
        rows = list(some_surround().watches)
        for order in itertools.islice(itertools.permutations(rows), 0, 720, 37):
            self.assertTrue(Surround(["b", "c"], [("z", 2), ("y", 1)], order) == some_surround())

    def test_bounds_of_need_and_weight(self):
        found = Surround(["a"], [("x", 0), ("y", 9999)], [("a", "x", 1), ("y", "a", 9999)])
        self.same(found.folk, (("x", 0), ("y", 9999)))
        self.same(found.watches, (("y", "a", 9999), ("a", "x", 1)))

    def test_refused_border(self):
        self.refuses(BadName("A"), Surround, ["a", "A"], [], [])
        self.refuses(BadName(""), Surround, ["", ""], [], [])
        self.refuses(BadName("abcdefghi"), Surround, ["abcdefghi"], [], [])
        self.refuses(Repeated("a"), Surround, ["a", "b", "a"], [], [])
        self.refuses(Repeated("a"), Surround, ["a", "a", "B"], [], [])
        self.refuses(BadName("B"), Surround, ["a", "B", "a"], [], [])

    def test_refused_outer_folk(self):
        for name in ("", "X", "1x", "x y", "abcdefghi", "x\n"):
            self.refuses(BadName(name), Surround, ["a"], [("x", 1), (name, 1)], [])
        for need in (-1, 10000, True, False, 10 ** 59):
            self.refuses(BadNumber(need), Surround, ["a"], [("x", 1), ("y", need)], [])
        self.refuses(Repeated("a"), Surround, ["b", "a"], [("x", 1), ("a", 1)], [])
        self.refuses(Repeated("x"), Surround, ["a"], [("x", 1), ("y", 1), ("x", 1)], [])

    def test_refused_watches(self):
        given = (["a", "b"], [("x", 1), ("y", 1)])
        self.refuses(UnknownFolk("q"), Surround, *given, [("q", "r", 0)])
        self.refuses(UnknownFolk("r"), Surround, *given, [("x", "r", 0)])
        for weight in (0, -1, 10000, True, False):
            self.refuses(BadNumber(weight), Surround, *given, [("x", "y", weight)])
        self.refuses(SelfWatch("x"), Surround, *given, [("x", "y", 1), ("x", "x", 1)])
        self.refuses(SelfWatch("a"), Surround, *given, [("a", "a", 1)])
        self.refuses(BorderWatch("b", "a"), Surround, *given, [("x", "y", 1), ("b", "a", 1)])
        self.refuses(Repeated(("x", "a")), Surround, *given, [("x", "a", 1), ("a", "x", 1), ["x", "a", 2]])

    def test_refused_for_several_reasons(self):
        many = outer_folk(8)
        self.refuses(BadCount("border", 4), Surround, ["A", "a", "a", "b"], many, [("q", "q", 0)])
        self.refuses(BadName("A"), Surround, ["A", "b", "b"], many, [("q", "q", 0)])
        self.refuses(Repeated("b"), Surround, ["b", "b"], many, [])
        self.refuses(BadCount("outer", 8), Surround, ["o0"], [("A", -1)] + many[:7], [("q", "q", 0)] * 25)
        self.refuses(BadName("A"), Surround, ["a"], [("A", -1)], [("q", "q", 0)] * 25)
        self.refuses(BadNumber(-1), Surround, ["a"], [("a", -1)], [("q", "q", 0)] * 25)
        self.refuses(BadNumber(True), Surround, ["a"], [("x", 1), ("x", True)], [])
        self.refuses(Repeated("a"), Surround, ["a"], [("a", 1), ("A", 1)], [("q", "q", 0)] * 25)
        self.refuses(BadCount("watches", 25), Surround, ["a"], [], [("q", "q", 0)] * 25)
        given = (["a", "b"], [("x", 1), ("y", 1)])
        self.refuses(UnknownFolk("q"), Surround, *given, [("q", "q", 0), ("r", "a", 1)])
        self.refuses(BadNumber(0), Surround, *given, [("a", "a", 0)])
        self.refuses(BadNumber(0), Surround, *given, [("a", "b", 0)])
        self.refuses(BadNumber(True), Surround, *given, [("x", "y", 1), ("x", "y", True)])
        self.refuses(SelfWatch("x"), Surround, *given, [("x", "x", 1), ("a", "b", 1)])
        self.refuses(BorderWatch("a", "b"), Surround, *given, [("a", "b", 1), ("a", "b", 1)])

    def test_equality(self):
        one = some_surround()
        self.assertIs(one == some_surround(), True)
        self.assertIs(one != some_surround(), False)
        border, folk, watches = one.border, one.folk, one.watches
        for other in (
            Surround(border[::-1], folk, watches), Surround(border, folk[::-1], watches),
            Surround(border, folk, watches[1:]), Surround(border, [("z", 2), ("y", 2)], watches),
            Surround(border + ("d",), folk, watches),
        ):
            self.assertIs(one == other, False)
            self.assertIs(other == one, False)
            self.assertIs(one != other, True)

    def test_the_properties_cannot_be_set(self):
        found = some_surround()
        for name in ("border", "folk", "watches"):
            with self.assertRaises(AttributeError):
                setattr(found, name, ())
        self.assertTrue(found == some_surround())

    def test_copies(self):
        border, folk, watches = ["a"], [["x", 1]], [["x", "a", 2]]
        found = Surround(border, folk, watches)
        self.assertEqual((border, folk, watches), (["a"], [["x", 1]], [["x", "a", 2]]))
        border.append("b")
        folk[0][1] = 5
        watches[0][2] = 7
        watches.clear()
        self.same((found.border, found.folk, found.watches), (("a",), (("x", 1),), (("x", "a", 2),)))

    def test_kinds_made_from_pythons_own_do_not_stay(self):
        found = Surround(
            Row([Text("a")]), [Row([Text("x"), Number(1)])], [Row([Text("x"), Text("a"), Number(2)])]
        )
        self.same((found.border, found.folk, found.watches), (("a",), (("x", 1),), (("x", "a", 2),)))


class Glue(Case):
    def test_ordinary(self):
        found = glue(some_piece(), some_surround())
        self.same(found.folk, (("a", 1), ("b", 1), ("c", 2), ("d", 3), ("z", 2), ("y", 1)))
        self.assertTrue(found == Web(found.folk, example_web().watches + some_surround().watches))

    def test_an_empty_border(self):
        found = glue(Piece(example_web(), []), Surround([], [("x", 5)], []))
        self.assertTrue(found == Web(example_web().folk + (("x", 5),), example_web().watches))
        self.assertTrue(glue(some_piece(), Surround(["b", "c"], [], [])) == example_web())

    def test_other_borders(self):
        piece = some_piece()
        for border, place in ((["c", "b"], 0), (["b"], 1), (["b", "c", "d"], 2), (["b", "d"], 1), ([], 0), (["a"], 0)):
            self.refuses(OtherFolk(place), glue, piece, Surround(border, [], []))
        self.refuses(OtherFolk(0), glue, Piece(example_web(), []), Surround(["b"], [], []))

    def test_repeated(self):
        found = Surround(["b", "c"], [("x", 1), ("d", 1), ("a", 1)], [])
        self.refuses(Repeated("d"), glue, some_piece(), found)

    def test_too_many(self):
        self.same(len(glue(some_piece(), Surround(["b", "c"], outer_folk(6), [])).names), 10)
        self.refuses(BadCount("folk", 11), glue, some_piece(), Surround(["b", "c"], outer_folk(7), []))
        nine = Piece(plain_web(9), ["m"])
        self.refuses(BadCount("folk", 16), glue, nine, Surround(["m"], outer_folk(7), []))
        # Six folk with 21 watches, and four more folk.
        names = [name for name, _ in outer_folk(4)]
        pairs = [(one, other, 1) for one in names for other in names if one != other]
        large = Piece(full_web(21), ["m"])
        self.same(len(glue(large, Surround(["m"], outer_folk(4), pairs[:3])).watches), 24)
        self.refuses(BadCount("watches", 25), glue, large, Surround(["m"], outer_folk(4), pairs[:4]))
        self.refuses(BadCount("watches", 33), glue, large, Surround(["m"], outer_folk(4), pairs))

    def test_refused_for_several_reasons(self):
        nine = Piece(plain_web(9), ["m", "c"])
        inner = [("x", 1)] + outer_folk(6)
        names = [name for name, _ in outer_folk(6)]
        pairs = [(one, other, 1) for one in names for other in names if one != other]
        self.refuses(OtherFolk(1), glue, nine, Surround(["m"], inner, []))
        self.refuses(Repeated("x"), glue, nine, Surround(["m", "c"], inner, pairs[:24]))
        large = Piece(full_web(21), ["m", "c"])
        self.refuses(BadCount("folk", 12), glue, large, Surround(["m", "c"], outer_folk(6), pairs[:24]))


class OuterClosure(Case):
    def test_ordinary(self):
        self.same(outer_closure(some_piece(), some_surround(), []), ())
        self.same(outer_closure(some_piece(), some_surround(), ["b"]), ("b", "c", "z", "y"))
        self.same(outer_closure(some_piece(), some_surround(), ["c"]), ("c",))
        self.same(outer_closure(some_piece(), some_surround(), ["y", "c"]), ("b", "c", "z", "y"))

    def test_the_border_first(self):
        web = Web([("a", 0), ("z", 0), ("m", 9)])
        found = Surround(["a", "m"], [("y", 0), ("b", 0)], [])
        self.same(outer_closure(Piece(web, ["m", "a"]), found, ("b", "m")), ("a", "m", "y", "b"))

    def test_the_awake_inner_folk_count(self):
        piece = Piece(example_web(), ["b", "c"], awake=["a"])
        self.same(outer_closure(piece, some_surround(), []), ("b", "c", "z", "y"))

    def test_refused(self):
        piece, found = some_piece(), some_surround()
        for name in ("a", "d", "x", "", "B"):
            self.refuses(UnknownFolk(name), outer_closure, piece, found, ["b", name])
        self.refuses(Repeated("z"), outer_closure, piece, found, ["z", "b", "z", "q"])
        self.refuses(OtherFolk(1), outer_closure, Piece(example_web(), ["b"]), found, ["b"])
        self.refuses(Repeated("z"), outer_closure, Piece(Web([("b", 0), ("c", 0), ("z", 0)]), ["b", "c"]), found, [])
        many = Surround(["b", "c"], outer_folk(7), [])
        self.refuses(BadCount("folk", 11), outer_closure, piece, many, ["o1"])
        full = Piece(Web(
            [(name, 1) for name in "bcuvwx"], [(*pair, 1) for pair in list(itertools.permutations("bcuvwx", 2))[:21]],
        ), ["b", "c"])
        self.refuses(BadCount("watches", 27), outer_closure, full, found, ["b"])

    def test_refused_for_several_reasons(self):
        found = some_surround()
        self.refuses(UnknownFolk("a"), outer_closure, Piece(example_web(), ["b"]), found, ["a"])
        self.refuses(Repeated("b"), outer_closure, Piece(example_web(), ["b"]), found, ["b", "b"])
        piece = Piece(Web([("b", 0), ("z", 0)]), ["b"])
        self.refuses(OtherFolk(1), outer_closure, piece, found, ["z"])
        self.refuses(Repeated("z"), outer_closure, Piece(plain_named("bcz", 9), ["b", "c"]), many_outer(), ["z"])
        self.refuses(BadCount("folk", 15), outer_closure, Piece(plain_named("bc", 9), ["b", "c"]), many_outer(), ["z"])

    def test_all(self):
        for piece, found in pieces_and_surrounds():
            web = glue(piece, found)
            names = found.border + tuple(name for name, _ in found.folk)
            for awake in subsets(names):
                world = closure_of(web, awake + piece.awake)
                expected = tuple(name for name in names if name in world)
                self.same(outer_closure(piece, found, awake[::-1]), expected)
                self.same(closure_by_table(table(piece), found, awake[::-1]), expected)


def plain_named(names, number):
    """A web of so many folk, these names first."""
    rest = [name for name, _ in outer_folk(9)]
    return Web([(name, 0) for name in (list(names) + [f"i{name}" for name in rest])[:number]])


def many_outer():
    """A surround of a border of b and c and six outer folk, z among them."""
    return Surround(["b", "c"], [("z", 1), ("y", 1)] + outer_folk(4), [])


def pieces_and_surrounds():
    """Pieces of some small webs, each with a surround made by a rule without chance."""
    found = []
    webs = [web for web in small_webs() if 1 < len(web.names) < 5]
    for at, web in enumerate(webs):
        borders = [border for border in subsets(web.names) if len(border) <= 3]
        border = borders[at * 5 % len(borders)]
        inner = outside_of(web, border)
        piece = Piece(web, border, awake=inner[at % 2:at % 3])
        outer = [("p", at % 4), ("q", (at + 2) % 5), ("r", at * 3 % 4)][:1 + at % 3]
        names = border + tuple(name for name, _ in outer)
        pairs = enumerate(itertools.permutations(names, 2))
        watches = [
            (one, other, 1 + (at + 3 * place) % 3) for place, (one, other) in pairs
            if not (one in border and other in border) and (at + place) % 3 > 0
        ]
        found.append((piece, Surround(border, outer, watches)))
    return found


class ClosureByTable(Case):
    def test_lists_and_tuples(self):
        rows = table(some_piece())
        as_lists = [[list(part) for part in row] for row in rows]
        for awake in subsets(["b", "c", "z", "y"]):
            expected = outer_closure(some_piece(), some_surround(), awake)
            for told in (rows, tuple(rows), as_lists, tuple(as_lists)):
                before = kinds(told)
                self.same(closure_by_table(told, some_surround(), list(awake)), expected)
                self.assertEqual(kinds(told), before)

    def test_outer_names_that_are_inner_names_of_the_piece(self):
        rows = table(some_piece())
        names = {"z": "a", "y": "d"}
        renamed = Surround(
            ["b", "c"], [(names[name], need) for name, need in some_surround().folk],
            [(names.get(one, one), names.get(other, other), weight) for one, other, weight in some_surround().watches],
        )
        self.refuses(Repeated("a"), glue, some_piece(), renamed)
        for awake in subsets(["b", "c", "z", "y"]):
            told = outer_closure(some_piece(), some_surround(), awake)
            given = [names.get(name, name) for name in awake]
            self.same(closure_by_table(rows, renamed, given), tuple(names.get(name, name) for name in told))

    def test_no_size_is_refused(self):
        nine = Piece(plain_web(9, 1), ["m"])
        outer = outer_folk(7)
        pairs = [(one, other, 1) for (one, _), (other, _) in itertools.permutations(outer, 2)][:24]
        found = Surround(["m"], outer, pairs)
        self.refuses(BadCount("folk", 16), outer_closure, nine, found, [])
        self.same(closure_by_table(table(nine), found, ["o5", "m"])[:2], ("m", "o0"))

    def test_an_empty_border(self):
        rows = table(Piece(example_web(), []))
        found = Surround([], [("x", 1), ("y", 0)], [("y", "x", 1)])
        self.same(closure_by_table(rows, found, []), ("x", "y"))
        self.same(closure_by_table(rows, Surround([], [], []), ()), ())

    def test_refused(self):
        rows = table(some_piece())
        for name in ("a", "x", ""):
            self.refuses(UnknownFolk(name), closure_by_table, rows, some_surround(), ["b", name])
        self.refuses(Repeated("b"), closure_by_table, rows, some_surround(), ["b", "b"])
        self.refuses(OtherFolk(0), closure_by_table, rows, Surround(["c", "b"], [], []), [])
        self.refuses(OtherFolk(1), closure_by_table, rows, Surround(["b"], [], []), [])
        self.refuses(OtherFolk(2), closure_by_table, rows, Surround(["b", "c", "d"], [], []), [])
        # Several at once: awake goes first.
        self.refuses(UnknownFolk("x"), closure_by_table, rows, Surround(["c", "b"], [], []), ["x"])
        self.refuses(Repeated("c"), closure_by_table, rows, Surround(["c", "b"], [], []), ["c", "c"])


class Neighbours(Case):
    def test_ordinary(self):
        web = example_web()
        self.same(neighbours(web, ["d"]), ("c",))
        self.same(neighbours(web, ["c"]), ("a", "b", "d"))
        self.same(neighbours(web, ["b", "a"]), ("c",))
        self.same(neighbours(web, []), ())
        self.same(neighbours(web, ["d", "c", "b", "a"]), ())
        self.same(neighbours(plain_web(3), ["m"]), ())
        unsorted = Web([("z", 1), ("a", 1), ("m", 1)], [("m", "a", 1), ("a", "z", 1)])
        self.same(neighbours(unsorted, ["a"]), ("z", "m"))

    def test_all(self):
        for web in small_webs():
            for names in subsets(web.names):
                expected = [
                    name for name in web.names if name not in names
                    and any(web.weight(name, one) + web.weight(one, name) > 0 for one in names)
                ]
                self.same(neighbours(web, names[::-1]), tuple(expected))

    def test_refused(self):
        self.refuses(UnknownFolk("x"), neighbours, example_web(), ["a", "x", "a"])
        self.refuses(Repeated("a"), neighbours, example_web(), ["a", "a", "x"])


def two_parts_web():
    """z, a and m; k and b; z and a join the two parts."""
    return Web(
        [("m", 1), ("z", 2), ("b", 1), ("a", 1), ("k", 3)],
        [("m", "z", 1), ("z", "m", 2), ("a", "m", 1), ("k", "z", 1), ("z", "b", 1), ("b", "k", 2), ("a", "z", 4)],
    )


class Split(Case):
    def test_ordinary(self):
        web = two_parts_web()
        piece, rest = split_web(web, ["m"], ["a", "z"], awake=["m"])
        self.assertTrue(piece == Piece(sub_web(web, ["m", "z", "a"]), ["z", "a"], awake=["m"]))
        self.same(rest.border, ("z", "a"))
        self.same(rest.folk, (("b", 1), ("k", 3)))
        self.same(rest.watches, (("k", "z", 1), ("z", "b", 1), ("b", "k", 2)))
        self.same(piece.web.folk, (("m", 1), ("z", 2), ("a", 1)))
        self.same(piece.web.watches, (("z", "m", 2), ("a", "m", 1), ("m", "z", 1), ("a", "z", 4)))

    def test_what_is_told_is_a_pair(self):
        found = split_web(example_web(), ["d"], ["c"])
        self.assertIs(type(found), tuple)
        self.assertEqual(len(found), 2)

    def test_nobody_inside_or_nobody_outside(self):
        web = example_web()
        piece, rest = split_web(web, [], ["a"])
        self.assertTrue(piece == Piece(sub_web(web, ["a"]), ["a"]))
        self.same([name for name, _ in rest.folk], ["b", "c", "d"])
        self.same(len(rest.watches), 5)
        whole, nothing = split_web(web, ["a", "b", "c", "d"], [], awake=["d", "a"])
        self.assertTrue(whole == Piece(web, [], awake=["a", "d"]))
        self.assertTrue(nothing == Surround([], [], []))

    def test_gluing_gives_the_web_again(self):
        count = 0
        for web in small_webs() + [two_parts_web()]:
            for names in subsets(web.names):
                for border in subsets(outside_of(web, names)):
                    if len(border) > 3 or len(names + border) == 0 or crosses(web, names, border):
                        continue
                    piece, rest = split_web(web, names, border, awake=names[:1])
                    glued = glue(piece, rest)
                    self.assertEqual(sorted(glued.folk), sorted(web.folk))
                    self.assertEqual(sorted(glued.watches), sorted(web.watches))
                    self.assertEqual(piece.inner, names)
                    self.assertEqual(piece.border, border)
                    self.assertEqual(piece.awake, names[:1])
                    self.assertEqual(rest.border, border)
                    self.assertEqual(tuple(name for name, _ in rest.folk), outside_of(web, names + border))
                    self.assertEqual(piece.web.names, in_folk_order(web, names + border))
                    count += 1
        self.assertGreater(count, 200)

    def test_refused_arguments(self):
        web = example_web()
        self.refuses(UnknownFolk("x"), split_web, web, ["d", "x"], ["c"])
        self.refuses(Repeated("d"), split_web, web, ["d", "d"], ["c"])
        self.refuses(BadCount("border", 4), split_web, web, [], ["a", "b", "c", "d"])
        self.refuses(UnknownFolk("x"), split_web, web, ["d"], ["c", "x"])
        self.refuses(Repeated("c"), split_web, web, ["d"], ["c", "c"])
        self.refuses(UnknownFolk("x"), split_web, web, ["d"], ["c"], awake=["d", "x"])
        self.refuses(Repeated("d"), split_web, web, ["d"], ["c"], awake=["d", "d"])

    def test_refused_behind_the_arguments(self):
        web = two_parts_web()
        self.refuses(OnBorder("z"), split_web, web, ["a", "z", "m"], ["a", "z"])
        self.refuses(Crossing("k", "z"), split_web, web, ["m", "z"], ["a"])
        self.refuses(Crossing("z", "m"), split_web, web, ["m"], [])
        # The first in folk order is outside here.
        self.refuses(Crossing("z", "m"), split_web, web, ["z"], ["b", "a", "k"])
        self.refuses(Outside("a"), split_web, web, ["m"], ["a", "z"], awake=["k", "m", "a"])
        self.refuses(Outside("k"), split_web, web, ["m"], ["a", "z"], awake=["k"])
        self.refuses(BadCount("folk", 0), split_web, web, [], [])

    def test_limits(self):
        ten = plain_web(10)
        nine = list(ten.names[:9])
        piece, rest = split_web(ten, nine[1:], nine[:1])
        self.same((len(piece.web.names), len(rest.folk)), (9, 1))
        self.refuses(TooLarge("folk", 9), split_web, ten, list(ten.names), [])
        self.refuses(TooLarge("folk", 9), split_web, ten, list(ten.names[1:]), list(ten.names[:1]))
        full = full_web(22)
        self.refuses(TooLarge("watches", 21), split_web, full, list(full.names), [])
        self.same(len(split_web(full_web(21), list(full.names), [])[0].web.watches), 21)
        piece, rest = split_web(ten, nine[:1], nine[1:3])
        self.same(len(rest.folk), 7)
        self.refuses(BadCount("outer", 8), split_web, ten, nine[:1], nine[1:2])
        self.refuses(BadCount("outer", 9), split_web, ten, nine[:1], [])

    def test_refused_for_several_reasons(self):
        web = two_parts_web()
        self.refuses(UnknownFolk("x"), split_web, web, ["x"], list("mzbak"), awake=["y"])
        self.refuses(BadCount("border", 4), split_web, web, ["m"], ["x", "x", "y", "y"], awake=["y"])
        self.refuses(UnknownFolk("x"), split_web, web, ["m"], ["m", "x"], awake=["y"])
        self.refuses(UnknownFolk("y"), split_web, web, ["m"], ["m"], awake=["y"])
        # On the border and crossing, with somebody awake outside.
        self.refuses(OnBorder("m"), split_web, web, ["m"], ["m"], awake=["b"])
        self.refuses(Crossing("z", "m"), split_web, web, ["m"], ["a"], awake=["b"])
        self.refuses(Outside("b"), split_web, web, [], [], awake=["b"])
        names = names_for(10)
        pairs = [(*pair, 1) for pair in list(itertools.permutations(names[:6], 2))[:22]]
        large = Web([(name, 0) for name in names], pairs)
        self.refuses(Outside("m"), split_web, large, names[1:], names[:1], awake=["m"])
        self.refuses(TooLarge("folk", 9), split_web, large, names, [])
        self.refuses(BadCount("folk", 0), split_web, large, [], [])
        # Six folk are inside with 22 watches: there can be but four outer folk.
        self.refuses(TooLarge("watches", 21), split_web, large, names[:6], [])

    def test_awake_by_keyword_alone(self):
        with self.assertRaises(TypeError):
            split_web(example_web(), ["d"], ["c"], ["d"])

    def test_nothing_that_is_passed_is_changed(self):
        names, border, awake = ["d"], ["c"], ["d"]
        before = split_web(example_web(), names, border, awake=awake)
        self.assertEqual((names, border, awake), (["d"], ["c"], ["d"]))
        again = split_web(example_web(), tuple(names), tuple(border), awake=tuple(awake))
        self.assertTrue(before[0] == again[0] and before[1] == again[1])


def crosses(web, names, border):
    """True if a watch joins somebody inside with somebody in neither."""
    rest = outside_of(web, names + border)
    return any(
        one in names and other in rest or one in rest and other in names for one, other, _ in web.watches
    )
