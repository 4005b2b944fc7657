"""Points 52, 53 and 60: pieces, their tables, and struck members."""

import itertools

from drowsefolk.deeds import missing
from drowsefolk.errors import (
    BadCount, NotBorder, NotInner, OnBorder, Repeated, TooLarge, UnknownFolk,
)
from drowsefolk.pieces import Piece, settle, smaller, struck, table
from drowsefolk.webs import Web, with_need, without_folk
from tests.helpers import Case, Text, example_web, names_for, plain_web, small_webs, subsets
from tests.slow import closure_of, in_folk_order, in_world_order, outside_of, weight_from


def many_watches(number):
    """A web of six folk with so many watches."""
    names = names_for(6)
    return Web([(name, 1) for name in names], [(*pair, 1) for pair in list(itertools.permutations(names, 2))[:number]])


def some_pieces():
    """All pieces with a border of up to three folk of some small webs."""
    webs = [web for web in small_webs() if len(web.names) < 4] + [example_web()]
    found = []
    for web in webs:
        for border in subsets(web.names):
            if len(border) <= 3:
                found.extend([Piece(web, border, awake=awake) for awake in subsets(outside_of(web, border))])
    return found


def row_by_words(piece, part):
    """The row of the table for a set of the border, by the words of point 53."""
    web = piece.web
    world = closure_of(web, part + piece.awake)
    needs = dict(web.folk)
    lacks = [0 if name in world else needs[name] - weight_from(web, world, name) for name in piece.border]
    return (part, tuple(name for name in piece.border if name in world), tuple(lacks))


class Building(Case):
    def test_ordinary(self):
        piece = Piece(example_web(), ["c", "b"], awake=["d", "a"])
        self.assertTrue(piece.web == example_web())
        self.same(piece.border, ("b", "c"))
        self.same(piece.inner, ("a", "d"))
        self.same(piece.awake, ("a", "d"))

    def test_0_to_3_on_the_border(self):
        web = plain_web(4)
        for border in subsets(web.names):
            if len(border) < 4:
                piece = Piece(web, list(border[::-1]))
                self.same(piece.border, border)
                self.same(piece.inner, outside_of(web, border))
                self.same(piece.awake, ())
            else:
                self.refuses(BadCount("border", 4), Piece, web, border)
        whole = Piece(plain_web(3), ["x", "c", "m"])
        self.same((whole.border, whole.inner), (("m", "c", "x"), ()))

    def test_awake_is_left_out_or_passed_by_keyword(self):
        web = example_web()
        self.assertTrue(Piece(web, ["a"]) == Piece(web, ["a"], awake=[]))
        with self.assertRaises(TypeError):
            Piece(web, ["a"], ["b"])

    def test_refused(self):
        web = example_web()
        self.refuses(BadCount("border", 4), Piece, web, list("abcd"))
        self.refuses(UnknownFolk("x"), Piece, web, ["a", "x"])
        self.refuses(Repeated("a"), Piece, web, ["a", "a"])
        self.refuses(UnknownFolk("x"), Piece, web, ["a"], awake=["b", "x"])
        self.refuses(Repeated("b"), Piece, web, ["a"], awake=["b", "b"])
        self.refuses(OnBorder("a"), Piece, web, ["a"], awake=["a"])
        unsorted = Web([("z", 0), ("a", 0), ("m", 0)])
        self.refuses(OnBorder("z"), Piece, unsorted, ["m", "a", "z"], awake=["a", "z"])
        self.refuses(OnBorder("a"), Piece, unsorted, ["m", "a"], awake=["m", "a", "z"])

    def test_limits(self):
        self.same(len(Piece(plain_web(9), ["m"]).inner), 8)
        self.refuses(TooLarge("folk", 9), Piece, plain_web(10), ["m"])
        self.same(len(Piece(many_watches(21), ["m"]).web.watches), 21)
        self.refuses(TooLarge("watches", 21), Piece, many_watches(22), ["m"])
        self.refuses(TooLarge("watches", 21), Piece, many_watches(24), [])

    def test_several_at_once(self):
        names = names_for(10)
        web = Web([(name, 0) for name in names], [
            (*pair, 1) for pair in list(itertools.permutations(names, 2))[:22]
        ])
        self.refuses(BadCount("border", 5), Piece, web, ["q", "m", "m", "c", "x"], awake=["q"])
        self.refuses(UnknownFolk("q"), Piece, web, ["m", "q", "m"], awake=["r", "r"])
        self.refuses(Repeated("m"), Piece, web, ["m", "m", "q"], awake=["q"])
        self.refuses(UnknownFolk("q"), Piece, web, ["m"], awake=["m", "q"])
        self.refuses(Repeated("m"), Piece, web, ["m"], awake=["m", "m"])
        self.refuses(OnBorder("m"), Piece, web, ["m"], awake=["m"])
        self.refuses(TooLarge("folk", 9), Piece, web, ["m"], awake=["c"])

    def test_the_properties_cannot_be_set(self):
        piece = Piece(example_web(), ["b"])
        for name in ("web", "border", "inner", "awake"):
            with self.assertRaises(AttributeError):
                setattr(piece, name, ())
        self.assertTrue(piece == Piece(example_web(), ["b"]))

    def test_equality(self):
        one = Piece(example_web(), ["c", "b"], awake=["d", "a"])
        self.assertIs(one == Piece(example_web(), ("b", "c"), awake=("a", "d")), True)
        self.assertIs(one != Piece(example_web(), ("b", "c"), awake=("a", "d")), False)
        for other in (
            Piece(example_web(), ["b"], awake=["d", "a"]), Piece(example_web(), ["c", "b"], awake=["a"]),
            Piece(example_web(), ["c", "b"]), Piece(with_need(example_web(), "d", 4), ["c", "b"], awake=["d", "a"]),
        ):
            self.assertIs(one == other, False)
            self.assertIs(other == one, False)
            self.assertIs(one != other, True)


class Settle(Case):
    def test_ordinary(self):
        web = example_web()
        self.same(settle(Piece(web, ["b", "c"]), ["b"]), ("a", "b", "c"))
        self.same(settle(Piece(web, ["b", "c"]), ["c"]), ("c",))
        self.same(settle(Piece(web, ["b", "c"], awake=["d", "a"]), []), ("a", "b", "c", "d"))
        self.same(settle(Piece(web, ["d"], awake=["c"]), ("d",)), ("c", "d"))
        self.same(settle(Piece(web, []), []), ())
        self.same(settle(Piece(web, [], awake=["b"]), ()), ("a", "b", "c"))

    def test_all(self):
        for piece in some_pieces():
            for told in subsets(piece.border):
                self.same(settle(piece, told[::-1]), closure_of(piece.web, told + piece.awake))

    def test_refused(self):
        piece = Piece(example_web(), ["c", "b"], awake=["a"])
        for name in ("a", "d", "x", "", "B", "b "):
            self.refuses(NotBorder(name), settle, piece, [name])
            self.refuses(NotBorder(name), settle, piece, ["c", name, "c"])
        self.refuses(Repeated("b"), settle, piece, ["b", "b"])
        self.refuses(Repeated("c"), settle, piece, ["c", "b", "c", "x"])
        self.refuses(NotBorder("x"), settle, piece, ["c", "x", "c"])
        self.refuses(NotBorder("a"), settle, Piece(example_web(), []), ["a"])
        self.refuses(NotBorder("x"), settle, piece, ["x", "x"])


class Table(Case):
    def test_the_example(self):
        self.same(
            table(Piece(example_web(), ["b", "c"])),
            [
                ((), (), (1, 2)), (("b",), ("b", "c"), (0, 0)), (("c",), ("c",), (1, 0)),
                (("b", "c"), ("b", "c"), (0, 0)),
            ],
        )

    def test_weights_are_read_at_the_settled_world(self):
        web = Web([("a", 9), ("b", 0), ("c", 1)], [("b", "c", 1), ("b", "a", 2), ("c", "a", 4)])
        self.same(table(Piece(web, ["a"])), [((), (), (3,)), (("a",), ("a",), (0,))])

    def test_one_who_is_awake_lacks_nothing(self):
        # a has a missing weight even while awake, but stands with 0.
        web = Web([("a", 9), ("b", 1)])
        self.same(missing(web, ["a"], "a"), 9)
        self.same(
            table(Piece(web, ["b", "a"])),
            [((), (), (9, 1)), (("a",), ("a",), (0, 1)), (("b",), ("b",), (9, 0)), (("a", "b"), ("a", "b"), (0, 0))],
        )

    def test_an_empty_border(self):
        for awake in ([], ["a"], list("abcd")):
            self.same(table(Piece(example_web(), [], awake=awake)), [((), (), ())])

    def test_world_order_of_the_border(self):
        rows = table(Piece(plain_web(5, 1), ["a", "m", "x"]))
        expected = [(), ("m",), ("x",), ("a",), ("m", "x"), ("m", "a"), ("x", "a"), ("m", "x", "a")]
        self.same([row[0] for row in rows], expected)
        self.same([row[1] for row in rows], expected)

    def test_all(self):
        for piece in some_pieces():
            parts = in_world_order(piece.web, subsets(piece.border))
            self.same(table(piece), [row_by_words(piece, part) for part in parts])

    def test_a_list_that_is_returned_is_new(self):
        piece = Piece(example_web(), ["b", "c"])
        before = table(piece)
        table(piece).clear()
        self.same(table(piece), before)


class Struck(Case):
    def test_ordinary(self):
        piece = Piece(example_web(), ["c", "b"], awake=["a", "d"])
        self.assertTrue(struck(piece, "d") == Piece(without_folk(example_web(), "d"), ["b", "c"], awake=["a"]))
        self.assertTrue(struck(piece, "a") == Piece(without_folk(example_web(), "a"), ["b", "c"], awake=["d"]))
        sleeping = Piece(example_web(), ["c"], awake=["a"])
        self.assertTrue(struck(sleeping, "b") == Piece(without_folk(example_web(), "b"), ["c"], awake=["a"]))
        # The piece itself stays as it is.
        self.assertTrue(piece == Piece(example_web(), ["c", "b"], awake=["a", "d"]))

    def test_refused(self):
        piece = Piece(example_web(), ["c", "b"])
        for name in ("x", "", "A"):
            self.refuses(UnknownFolk(name), struck, piece, name)
        self.refuses(NotInner("c"), struck, piece, "c")
        self.refuses(NotInner("m"), struck, Piece(plain_web(1), ["m"]), "m")
        self.refuses(BadCount("folk", 0), struck, Piece(plain_web(1), []), "m")
        self.refuses(BadCount("folk", 0), struck, Piece(plain_web(1), [], awake=["m"]), "m")
        self.refuses(UnknownFolk("c"), struck, Piece(plain_web(1), []), "c")


def smaller_by_words(piece):
    """The piece struck one after another, by the words of point 60."""
    for name in piece.inner:
        if len(piece.web.names) > 1:
            rest = Piece(without_folk(piece.web, name), piece.border, awake=[one for one in piece.awake if one != name])
            rows = [row_by_words(rest, part) for part in subsets(piece.border)]
            if rows == [row_by_words(piece, part) for part in subsets(piece.border)]:
                piece = rest
    return piece


class Smaller(Case):
    def test_ordinary(self):
        piece = Piece(example_web(), ["c", "b"])
        # d does nothing for b and c; a does.
        self.assertTrue(smaller(piece) == Piece(without_folk(example_web(), "d"), ["b", "c"]))
        self.assertTrue(smaller(smaller(piece)) == smaller(piece))
        self.assertTrue(piece == Piece(example_web(), ["b", "c"]))

    def test_one_of_two_who_can_stand_in_for_each_other(self):
        web = Web([("z", 0), ("a", 0), ("m", 1)], [("z", "m", 1), ("a", "m", 1)])
        self.assertTrue(smaller(Piece(web, ["m"])) == Piece(without_folk(web, "z"), ["m"]))
        awake = Piece(web, ["m"], awake=["a", "z"])
        self.assertTrue(smaller(awake) == Piece(without_folk(web, "z"), ["m"], awake=["a"]))

    def test_an_empty_border(self):
        self.assertTrue(smaller(Piece(example_web(), [])) == Piece(Web([("d", 3)]), []))
        self.assertTrue(smaller(Piece(example_web(), [], awake=["d", "a"])) == Piece(Web([("d", 3)]), [], awake=["d"]))
        only = Piece(plain_web(1), [], awake=["m"])
        self.assertTrue(smaller(only) == only)

    def test_nobody_inside(self):
        piece = Piece(plain_web(3), ["m", "c", "x"])
        self.assertTrue(smaller(piece) == piece)

    def test_against_striking_one_after_another(self):
        for piece in some_pieces():
            found = smaller(piece)
            self.assertTrue(found == smaller_by_words(piece))
            self.same(table(found), table(piece))
            for name in found.inner:
                if len(found.web.names) > 1:
                    self.assertNotEqual(table(struck(found, name)), table(found))


class Copies(Case):
    def test_a_piece_stays_as_it_was(self):
        border, awake, told = ["c", "b"], ["d", "a"], ["b"]
        piece = Piece(example_web(), border, awake=awake)
        before = (settle(piece, told), table(piece))
        self.assertEqual((border, awake, told), (["c", "b"], ["d", "a"], ["b"]))
        border.clear()
        awake.append("x")
        struck(piece, "a")
        smaller(piece)
        self.same((settle(piece, told), table(piece)), before)
        self.same((piece.border, piece.inner, piece.awake), (("b", "c"), ("a", "d"), ("a", "d")))
        self.same(in_folk_order(piece.web, piece.border + piece.inner), piece.web.names)

    def test_names_told_are_of_pythons_own_kind(self):
        piece = Piece(plain_web(3), [Text("c")], awake=[Text("m")])
        self.same((piece.border, piece.inner, piece.awake), (("c",), ("m", "x"), ("m",)))
        self.same(settle(piece, [Text("c")]), ("m", "c", "x"))
        self.refuses(NotBorder("m"), settle, piece, [Text("m")])
