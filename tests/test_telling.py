"""Points 57 (shrunk webs), 58, 59 and 61: pieces told apart, compared and joined."""

import itertools

from drowsefolk.errors import (
    BadCount, Crossing, OnBorder, OtherFolk, OtherNeed, Repeated, TooLarge, UnknownFolk,
)
from drowsefolk.gluing import Surround, glue, outer_closure, split_web
from drowsefolk.pieces import Piece, smaller, table
from drowsefolk.telling import (
    alike_in_all, is_telling, join_pieces, join_tables, shrunk_web, telling, wakes_no_more,
)
from drowsefolk.webs import Web, sub_web, with_need
from tests.helpers import Case, example_web, full_web, plain_web, small_webs, subsets
from tests.slow import closure_of, outside_of
from tests.test_gluing import crosses, outer_folk, two_parts_web


def pieces_on(border, tag="i"):
    """Pieces of up to two inner folk on this border of up to two, made by a rule without chance."""
    found = []
    for seed in range(60):
        state = seed * 7919 + 13
        inner = [f"{tag}{at}" for at in range(seed % 3)]
        folk, watches = [], []
        for name in list(border) + inner:
            state = (state * 1103515245 + 12345) % 2147483648
            folk.append((name, state // 65536 % 4))
        for one, other in itertools.permutations(list(border) + inner, 2):
            state = (state * 1103515245 + 12345) % 2147483648
            if state // 65536 % 5 > 1:
                watches.append((one, other, state // 65536 % 3 + 1))
        if folk:
            found.append(Piece(Web(folk, watches), border, awake=inner[:seed % 2]))
    return found


def surrounds_on(border):
    """Some surrounds of this border with up to two outer folk."""
    found = [Surround(border, [], [])]
    for seed in range(12):
        outer = [("p", seed % 4), ("q", seed * 5 % 3)][:1 + seed % 2]
        names = list(border) + [name for name, _ in outer]
        watches = [
            (one, other, 1 + (seed + at) % 3) for at, (one, other) in enumerate(itertools.permutations(names, 2))
            if not (one in border and other in border) and (seed + at) % 4 > 0
        ]
        found.append(Surround(border, outer, watches))
    return found


def names_of(surround):
    """All names of a surround."""
    return surround.border + tuple(name for name, _ in surround.folk)


BORDERS = ((), ("a",), ("b", "a"))


class AlikeInAll(Case):
    def test_ordinary(self):
        web = example_web()
        one = Piece(web, ["b", "c"])
        # d does nothing for b and c.
        self.assertIs(alike_in_all(one, Piece(sub_web(web, ["a", "b", "c"]), ["c", "b"])), True)
        self.assertIs(alike_in_all(one, one), True)
        self.assertIs(alike_in_all(one, Piece(web, ["b", "c"], awake=["a"])), False)
        self.assertIs(alike_in_all(one, Piece(web, ["b", "c"], awake=["d"])), True)

    def test_exactly_if_the_tables_are_equal(self):
        for border in BORDERS:
            pieces = pieces_on(border)
            for one, other in itertools.product(pieces[::3], pieces[::2]):
                self.assertIs(alike_in_all(one, other), table(one) == table(other))

    def test_an_empty_border(self):
        self.assertIs(alike_in_all(Piece(example_web(), []), Piece(plain_web(2), [], awake=["m"])), True)

    def test_refused(self):
        web = example_web()
        unsorted = Web([("c", 1), ("b", 1)])
        for call in (alike_in_all, wakes_no_more, telling, join_pieces):
            self.refuses(OtherFolk(0), call, Piece(web, ["b"]), Piece(web, ["c"]))
            self.refuses(OtherFolk(1), call, Piece(web, ["b"]), Piece(web, ["c", "b"]))
            self.refuses(OtherFolk(1), call, Piece(web, ["c", "b"]), Piece(web, ["b"]))
            self.refuses(OtherFolk(0), call, Piece(web, ["c", "b"]), Piece(unsorted, ["b", "c"]))
            self.refuses(OtherFolk(0), call, Piece(web, []), Piece(web, ["a"]))


class WakesNoMore(Case):
    def test_ordinary(self):
        web = example_web()
        one = Piece(web, ["b", "c"])
        other = Piece(web, ["b", "c"], awake=["a"])
        self.assertIs(wakes_no_more(one, other), True)
        self.assertIs(wakes_no_more(other, one), False)
        self.assertIs(wakes_no_more(one, one), True)
        heavy = Piece(with_need(web, "b", 2), ["b", "c"])
        self.assertIs(wakes_no_more(heavy, one), True)
        self.assertIs(wakes_no_more(one, heavy), False)

    def test_neither_way(self):
        one = Piece(Web([("a", 1), ("b", 2)]), ["a", "b"])
        other = Piece(Web([("a", 2), ("b", 1)]), ["a", "b"])
        self.assertIs(wakes_no_more(one, other), False)
        self.assertIs(wakes_no_more(other, one), False)

    def test_a_set_that_is_as_large_but_no_part(self):
        # The missing numbers of the first are nowhere below those of the second.
        one = Piece(Web([("a", 9), ("b", 9), ("i", 0)], [("i", "a", 9)]), ["a", "b"])
        other = Piece(Web([("a", 9), ("b", 9), ("i", 0)], [("i", "b", 9)]), ["a", "b"])
        self.assertIs(wakes_no_more(one, other), False)

    def test_against_outer_closures(self):
        for border in BORDERS:
            pieces, surrounds = pieces_on(border), surrounds_on(border)
            for one, other in itertools.product(pieces[::7], pieces[1::5]):
                if wakes_no_more(one, other):
                    for surround in surrounds:
                        for awake in subsets(names_of(surround)):
                            less = outer_closure(one, surround, awake)
                            self.assertLessEqual(set(less), set(outer_closure(other, surround, awake)))

    def test_where_it_does_not_hold_a_surround_shows_it(self):
        for border in BORDERS:
            pieces = pieces_on(border)
            for one, other in itertools.product(pieces[::7], pieces[1::5]):
                if not wakes_no_more(one, other):
                    self.assertTrue(shows_more(one, other))


def shows_more(one, other):
    """True if some surround with one outer member lets the first piece wake more than the second."""
    for row in table(one):
        for watched, weight in itertools.product(one.border, range(1, 10)):
            weights = {name: 99 for name in row[0]}
            weights[watched] = weight
            surround = Surround(one.border, [("zz", 0)], [("zz", name, weights[name]) for name in weights])
            if set(outer_closure(one, surround, [])) - set(outer_closure(other, surround, [])):
                return True
        surround = Surround(one.border, [], [])
        if set(outer_closure(one, surround, row[0])) - set(outer_closure(other, surround, row[0])):
            return True
    return False


def telling_by_words(one, other):
    """The surround of point 58, by its words; None if the tables are equal."""
    for row, other_row in zip(table(one), table(other)):
        if row != other_row:
            needs, other_needs = dict(one.web.folk), dict(other.web.folk)
            weights = {name: max(1, needs[name], other_needs[name]) for name in row[0]}
            if row[1] == other_row[1]:
                at = [left == right for left, right in zip(row[2], other_row[2])].index(False)
                weights[one.border[at]] = min(row[2][at], other_row[2][at])
            number = 0
            while f"z{number}" in one.web.names + other.web.names:
                number += 1
            name = f"z{number}"
            return Surround(one.border, [(name, 0)], [(name, told, weight) for told, weight in weights.items()])
    return None


class Telling(Case):
    def test_none_if_alike(self):
        web = example_web()
        one = Piece(web, ["b", "c"])
        self.assertIsNone(telling(one, one))
        self.assertIsNone(telling(one, Piece(sub_web(web, ["a", "b", "c"]), ["b", "c"])))
        self.assertIsNone(telling(Piece(web, []), Piece(plain_web(1), [])))

    def test_the_first_row_with_unlike_sets(self):
        # X is empty and the Y differ: no watches.
        one = Piece(Web([("a", 1), ("i", 0)], [("i", "a", 1)]), ["a"])
        other = Piece(Web([("a", 1), ("i", 0)]), ["a"])
        found, awake = telling(one, other)
        self.assertTrue(found == Surround(["a"], [("z0", 0)], []))
        self.same(awake, ())

    def test_equal_sets_and_unlike_numbers(self):
        one = Piece(Web([("a", 3), ("b", 5)]), ["a", "b"])
        other = Piece(Web([("a", 3), ("b", 4)]), ["a", "b"])
        found, awake = telling(one, other)
        self.assertTrue(found == Surround(["a", "b"], [("z0", 0)], [("z0", "b", 4)]))
        self.same(awake, ())

    def test_a_later_row(self):
        # Equal for the empty set; with a awake, b lacks 3 or 2.
        one = Piece(Web([("a", 0), ("b", 4)], [("a", "b", 1)]), ["a", "b"])
        other = Piece(Web([("a", 0), ("b", 4)], [("a", "b", 2)]), ["a", "b"])
        found, _ = telling(one, other)
        self.assertTrue(found == Surround(["a", "b"], [("z0", 0)], [("z0", "b", 2)]))
        one = Piece(Web([("a", 7), ("b", 4)], [("a", "b", 1)]), ["a", "b"])
        other = Piece(Web([("a", 7), ("b", 4)], [("a", "b", 2)]), ["a", "b"])
        found, _ = telling(one, other)
        self.assertTrue(found == Surround(["a", "b"], [("z0", 0)], [("z0", "a", 7), ("z0", "b", 2)]))

    def test_the_greatest_of_1_and_the_two_needs(self):
        # The inner i wakes with a in the one piece alone; needs of a: 3 and 1 with a watcher that weighs 2.
        one = Piece(Web([("a", 3), ("b", 1), ("i", 0)], [("a", "b", 1), ("i", "a", 2)]), ["a", "b"])
        other = Piece(Web([("a", 1), ("b", 1)]), ["a", "b"])
        found, _ = telling(one, other)
        self.assertTrue(found == Surround(["a", "b"], [("z0", 0)], [("z0", "a", 3)]))
        found, _ = telling(other, one)
        self.assertTrue(found == Surround(["a", "b"], [("z0", 0)], [("z0", "a", 3)]))
        self.assertIs(is_telling(one, other, found, ()), True)

    def test_the_first_free_name(self):
        for taken, free in (
            (["z0"], "z1"), (["z1"], "z0"), (["z0", "z1", "z3"], "z2"), (["z0", "z1", "z2"], "z3"),
        ):
            one = Piece(Web([("a", 1)] + [(name, 9) for name in taken[:1]]), ["a"])
            other = Piece(Web([("a", 2)] + [(name, 9) for name in taken[1:]]), ["a"])
            found, _ = telling(one, other)
            self.same(found.folk, ((free, 0),))
            self.same(found.watches, ((free, "a", 1),))
        border = Piece(Web([("z0", 1)]), ["z0"])
        self.same(telling(border, Piece(Web([("z0", 3)]), ["z0"]))[0].watches, (("z1", "z0", 1),))

    def test_against_the_words(self):
        count = 0
        for border in BORDERS:
            pieces = pieces_on(border)
            for one, other in itertools.product(pieces[::3], pieces[::4]):
                expected = telling_by_words(one, other)
                found = telling(one, other)
                if expected is None:
                    self.assertIsNone(found)
                    continue
                count += 1
                self.assertIs(type(found), tuple)
                self.assertTrue(found[0] == expected)
                self.same(found[1:], ((),))
                self.assertIs(is_telling(one, other, found[0], found[1]), True)
                glued = [closure_of(glue(piece, found[0]), piece.awake) for piece in (one, other)]
                seen = [tuple(name for name in names_of(found[0]) if name in world) for world in glued]
                self.assertNotEqual(seen[0], seen[1])
        self.assertGreater(count, 100)


class IsTelling(Case):
    def test_ordinary(self):
        one = Piece(Web([("a", 1)]), ["a"])
        other = Piece(Web([("a", 2)]), ["a"])
        heavy = Surround(["a"], [("x", 0)], [("x", "a", 2)])
        light = Surround(["a"], [("x", 0)], [("x", "a", 1)])
        self.assertIs(is_telling(one, other, heavy, []), False)
        self.assertIs(is_telling(one, other, light, []), True)
        self.assertIs(is_telling(one, other, light, ["a"]), False)
        # More outer folk, or none.
        asleep = Surround(["a"], [("x", 9), ("y", 0)], [("x", "a", 1)])
        self.assertIs(is_telling(one, other, asleep, []), False)
        self.assertIs(is_telling(one, other, asleep, ("y", "x")), True)
        woken = Piece(Web([("a", 2), ("i", 0)], [("i", "a", 2)]), ["a"])
        self.assertIs(is_telling(woken, other, Surround(["a"], [], []), []), True)
        self.assertIs(is_telling(one, one, light, []), False)

    def test_refused(self):
        one = Piece(example_web(), ["b", "c"])
        other = Piece(Web([("b", 1), ("c", 1), ("x", 1)]), ["b", "c"])
        plain = Surround(["b", "c"], [("y", 1)], [])
        self.refuses(UnknownFolk("a"), is_telling, one, other, plain, ["a"])
        self.refuses(Repeated("y"), is_telling, one, other, plain, ["y", "y"])
        self.refuses(OtherFolk(0), is_telling, one, other, Surround(["c", "b"], [], []), [])
        self.refuses(OtherFolk(1), is_telling, one, Piece(example_web(), ["b"]), plain, [])
        self.refuses(OtherFolk(1), is_telling, Piece(example_web(), ["b"]), other, plain, [])
        self.refuses(Repeated("a"), is_telling, one, other, Surround(["b", "c"], [("x", 1), ("a", 1)], []), [])
        self.refuses(Repeated("x"), is_telling, one, other, Surround(["b", "c"], [("y", 1), ("x", 1)], []), [])
        self.refuses(BadCount("folk", 11), is_telling, one, other, Surround(["b", "c"], outer_folk(7), []), [])
        nine = Piece(Web([("b", 1), ("c", 1)] + [(f"i{at}", 1) for at in range(7)]), ["b", "c"])
        self.refuses(BadCount("folk", 11), is_telling, one, nine, Surround(["b", "c"], outer_folk(2), []), [])
        self.refuses(BadCount("folk", 13), is_telling, nine, one, Surround(["b", "c"], outer_folk(4), []), [])

    def test_refused_for_several_reasons(self):
        one = Piece(example_web(), ["b", "c"])
        other = Piece(Web([("b", 1), ("c", 1), ("x", 1)]), ["b"])
        self.refuses(UnknownFolk("q"), is_telling, one, other, Surround(["b", "c"], [("a", 1)], []), ["q"])
        # The first piece is looked at wholly before the second.
        self.refuses(Repeated("a"), is_telling, one, other, Surround(["b", "c"], [("a", 1)], []), [])
        self.refuses(OtherFolk(1), is_telling, other, one, Surround(["b", "c"], [("a", 1)], []), [])


class Shrunk(Case):
    def test_ordinary(self):
        web = example_web()
        # d does nothing for c and is left out of the shrunk web.
        found = shrunk_web(web, ["d"], ["c"])
        self.same(found.folk, (("c", 2), ("a", 1), ("b", 1)))
        self.same(found.watches, (("a", "c", 1), ("b", "c", 1), ("b", "a", 1), ("a", "b", 1)))

    def test_by_its_parts(self):
        for web in small_webs() + [two_parts_web()]:
            for names in subsets(web.names):
                for border in subsets(outside_of(web, names)):
                    if 0 < len(names + border) and len(border) <= 3 and not crosses(web, names, border):
                        piece, rest = split_web(web, names, border)
                        self.assertTrue(shrunk_web(web, names, border) == glue(smaller(piece), rest))

    def test_an_empty_border(self):
        # The last inner member stays, also if there are outer folk.
        web = Web([("a", 1), ("b", 1), ("c", 5)], [("a", "b", 1)])
        self.assertTrue(shrunk_web(web, ["b", "a"], []) == Web([("b", 1), ("c", 5)]))
        self.assertTrue(shrunk_web(web, ["b", "a", "c"], []) == Web([("c", 5)]))
        self.assertTrue(shrunk_web(web, [], ["c"]) == Web([("c", 5), ("a", 1), ("b", 1)], [("a", "b", 1)]))

    def test_the_closures_seen_without_the_inner_folk(self):
        for web in small_webs() + [two_parts_web()]:
            for names in subsets(web.names):
                for border in subsets(outside_of(web, names)):
                    if len(names) == 0 or len(border) > 3 or crosses(web, names, border):
                        continue
                    shrunk = shrunk_web(web, names, border)
                    for awake in subsets(outside_of(web, names)):
                        before = set(closure_of(web, awake)) - set(names)
                        self.assertEqual(set(closure_of(shrunk, awake)) - set(names), before)

    def test_refused(self):
        web = two_parts_web()
        self.refuses(UnknownFolk("x"), shrunk_web, web, ["m", "x"], ["y"])
        self.refuses(Repeated("m"), shrunk_web, web, ["m", "m"], ["y"])
        self.refuses(BadCount("border", 4), shrunk_web, web, [], ["m", "z", "b", "a"])
        self.refuses(UnknownFolk("y"), shrunk_web, web, ["m"], ["y"])
        self.refuses(OnBorder("z"), shrunk_web, web, ["m", "z"], ["z"])
        self.refuses(Crossing("z", "m"), shrunk_web, web, ["m"], [])
        self.refuses(BadCount("folk", 0), shrunk_web, web, [], [])
        ten = plain_web(10)
        self.refuses(TooLarge("folk", 9), shrunk_web, ten, list(ten.names), [])
        self.refuses(TooLarge("watches", 21), shrunk_web, full_web(22), list(full_web().names), [])
        self.refuses(BadCount("outer", 9), shrunk_web, ten, ["m"], [])


def left_part():
    """A piece on b and c with the inner folk a and d."""
    return Piece(example_web(), ["b", "c"], awake=["d"])


def right_part():
    """A piece on b and c with the inner folk x and y."""
    web = Web([("x", 1), ("b", 1), ("y", 2), ("c", 2)], [("b", "x", 1), ("x", "c", 1), ("c", "y", 2), ("y", "b", 1)])
    return Piece(web, ["c", "b"], awake=["y"])


class JoinPieces(Case):
    def test_ordinary(self):
        found = join_pieces(left_part(), right_part())
        self.same(found.web.folk, (("a", 1), ("b", 1), ("c", 2), ("d", 3), ("x", 1), ("y", 2)))
        self.assertTrue(found.web == Web(found.web.folk, left_part().web.watches + right_part().web.watches))
        self.same((found.border, found.inner, found.awake), (("b", "c"), ("a", "d", "x", "y"), ("d", "y")))

    def test_an_empty_border(self):
        one, other = Piece(plain_web(2), [], awake=["c"]), Piece(Web([("q", 4)]), [], awake=["q"])
        self.assertTrue(
            join_pieces(one, other) == Piece(Web([("m", 0), ("c", 0), ("q", 4)]), [], awake=["c", "q"])
        )

    def test_needs(self):
        one = Piece(Web([("a", 1), ("b", 2), ("c", 3)]), ["a", "b", "c"])
        other = Piece(Web([("a", 1), ("b", 3), ("c", 2)]), ["a", "b", "c"])
        self.refuses(OtherNeed("b"), join_pieces, one, other)

    def test_inner_names(self):
        one = Piece(Web([("a", 1), ("x", 1), ("y", 1)]), ["a"])
        other = Piece(Web([("y", 1), ("a", 1), ("x", 1)]), ["a"])
        self.refuses(Repeated("y"), join_pieces, one, other)
        self.refuses(Repeated("x"), join_pieces, other, one)

    def test_watches_in_both(self):
        folk = [("a", 1), ("b", 1), ("c", 1)]
        one = Piece(Web(folk, [("a", "c", 1), ("b", "a", 2), ("a", "b", 1)]), ["a", "b", "c"])
        other = Piece(Web(folk, [("a", "c", 3), ("b", "a", 2), ("c", "b", 1)]), ["a", "b", "c"])
        self.refuses(Repeated(("b", "a")), join_pieces, one, other)
        turned = Piece(Web(folk, [("c", "a", 3), ("c", "b", 1)]), ["a", "b", "c"])
        self.same(len(join_pieces(one, turned).web.watches), 5)

    def test_limits(self):
        one = Piece(Web([("a", 1)] + [(f"i{at}", 1) for at in range(4)]), ["a"])
        other = Piece(Web([("a", 1)] + outer_folk(4)), ["a"])
        self.same(len(join_pieces(one, other).web.names), 9)
        large = Piece(Web([("a", 1)] + outer_folk(5)), ["a"])
        self.refuses(TooLarge("folk", 9), join_pieces, one, large)
        self.refuses(TooLarge("folk", 9), join_pieces, large, one)

    def test_limit_of_watches(self):
        def piece(names, number):
            pairs = list(itertools.permutations(["a"] + names, 2))[:number]
            return Piece(Web([("a", 1)] + [(name, 1) for name in names], [(*pair, 1) for pair in pairs]), ["a"])

        left, right = ["b", "c", "d"], ["e", "f", "g"]
        self.same(len(join_pieces(piece(left, 12), piece(right, 9)).web.watches), 21)
        self.refuses(TooLarge("watches", 21), join_pieces, piece(left, 12), piece(right, 10))
        # More watches together than a web may have, too.
        left, right = ["b", "c", "d", "e"], ["f", "g", "h", "i"]
        self.refuses(TooLarge("watches", 21), join_pieces, piece(left, 13), piece(right, 13))
        self.refuses(TooLarge("watches", 21), join_pieces, piece(left, 20), piece(right, 20))
        more = Piece(Web([("a", 1)] + outer_folk(6), [("o0", "a", 1)] + [("a", f"o{at}", 1) for at in range(6)] + [
            (f"o{at}", "o0", 1) for at in range(1, 6)
        ]), ["a"])
        self.refuses(TooLarge("folk", 9), join_pieces, piece(left, 20), more)

    def test_refused_for_several_reasons(self):
        def piece(folk, watches, border):
            return Piece(Web(folk, watches), border)

        ones = [("a", 1), ("b", 1), ("x", 1)] + outer_folk(5)
        one = piece(ones, [("a", "b", 1)], ["a", "b"])
        self.refuses(OtherFolk(1), join_pieces, one, piece([("a", 2), ("x", 1)], [], ["a"]))
        other = piece([("a", 1), ("b", 2), ("x", 1)], [("a", "b", 1)], ["a", "b"])
        self.refuses(OtherNeed("b"), join_pieces, one, other)
        other = piece([("a", 1), ("b", 1), ("x", 1)], [("a", "b", 1)], ["a", "b"])
        self.refuses(Repeated("x"), join_pieces, one, other)
        other = piece([("a", 1), ("b", 1), ("y", 1), ("z", 1)], [("a", "b", 1)], ["a", "b"])
        self.refuses(Repeated(("a", "b")), join_pieces, one, other)

    def test_the_parts_stay_as_they_were(self):
        one, other = left_part(), right_part()
        join_pieces(one, other)
        self.assertTrue(one == left_part() and other == right_part())


class JoinTables(Case):
    def test_ordinary(self):
        one, other = left_part(), right_part()
        expected = table(join_pieces(one, other))
        self.same(join_tables(table(one), table(other), [1, 2]), expected)

    def test_lists_and_tuples(self):
        one, other = table(left_part()), table(right_part())
        expected = join_tables(one, other, [1, 2])
        as_lists = [[list(part) for part in row] for row in one]
        self.same(join_tables(as_lists, tuple(other), (1, 2)), expected)
        self.assertEqual(as_lists, [[list(part) for part in row] for row in one])

    def test_an_empty_border(self):
        self.same(join_tables([((), (), ())], [[[], [], []]], []), [((), (), ())])

    def test_neither_alone_wakes_the_border(self):
        # Each part gives b one of the two that it needs.
        one = Piece(Web([("b", 2), ("x", 0)], [("x", "b", 1)]), ["b"])
        other = Piece(Web([("b", 2), ("y", 0)], [("y", "b", 1)]), ["b"])
        expected = [((), ("b",), (0,)), (("b",), ("b",), (0,))]
        self.same(join_tables(table(one), table(other), [2]), expected)
        self.same(table(join_pieces(one, other)), expected)

    def test_all(self):
        count = 0
        for border in BORDERS + (("c", "b", "a"),):
            ones, others = pieces_on(border), pieces_on(border, "k")
            for one, other in itertools.product(ones[::4], others[::3]):
                other_web = Web(
                    [(name, dict(one.web.folk).get(name, need)) for name, need in other.web.folk],
                    [row for row in other.web.watches if not (row[0] in border and row[1] in border)],
                )
                fitting = Piece(other_web, border, awake=other.awake)
                needs = [one.web.need(name) for name in border]
                self.same(
                    join_tables(table(one), table(fitting), needs), table(join_pieces(one, fitting))
                )
                count += 1
        self.assertGreater(count, 500)
