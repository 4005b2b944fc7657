"""Points 45 to 47: webs that are alike, canonical webs, first differences, and point 7 for is_renaming."""

import itertools

from drowsefolk.errors import TooLarge
from drowsefolk.renaming import Renaming, renamed
from drowsefolk.sameness import (
    canonical_renaming, canonical_web, count_selfs, find_renaming, first_difference, is_renaming,
)
from drowsefolk.webs import Web, with_need, with_watch
from tests.helpers import Case, Text, example_web, names_for, plain_web, small_webs


def arranged(web, names, order):
    """The web with new names, its folk in another order: place i of it is the member at order[i] of the web."""
    new = dict(zip([web.names[place] for place in order], names))
    folk = [(new[web.names[place]], web.folk[place][1]) for place in order]
    return Web(folk, [(new[watcher], new[watched], weight) for watcher, watched, weight in web.watches])


def alike_by(one, other, order):
    """True if the one at each place of the first web is as the one at the place told of the second."""
    pairs = list(zip(one.names, [other.names[place] for place in order]))
    if any(one.need(old) != other.need(new) for old, new in pairs):
        return False
    return all(
        one.weight(old, watched) == other.weight(new, new_watched)
        for old, new in pairs for watched, new_watched in pairs
    )


def alike_orders(one, other):
    """All rows of places that show the webs to be alike, in Python's order."""
    if len(one.names) != len(other.names):
        return []
    return [order for order in itertools.permutations(range(len(one.names))) if alike_by(one, other, order)]


def ring_web():
    """Five folk who each watch the next one."""
    names = names_for(5)
    return Web([(name, 1) for name in names], [(names[at - 1], names[at], 2) for at in range(5)])


def some_webs():
    """Some of the small webs and webs of five, each also with other names and in other orders."""
    found = []
    for web in small_webs()[:24] + [ring_web(), plain_web(5)]:
        found.append(web)
        number = len(web.names)
        for order in (tuple(range(number))[::-1], tuple(range(1, number)) + (0,)):
            found.append(arranged(web, ["p", "o", "n", "t", "s"][:number], order))
    return found


class FindRenaming(Case):
    def test_ordinary(self):
        web = example_web()
        other = arranged(web, ["z", "y", "x", "w"], (3, 1, 0, 2))
        # z is d, y is b, x is a, w is c; a and b are alike, and y stands before x.
        self.same(find_renaming(web, other).pairs, (("a", "y"), ("b", "x"), ("c", "w"), ("d", "z")))
        self.same(find_renaming(web, web).pairs, (("a", "a"), ("b", "b"), ("c", "c"), ("d", "d")))
        self.assertIsInstance(find_renaming(web, other), Renaming)

    def test_none(self):
        web = example_web()
        self.same(find_renaming(web, with_need(web, "d", 4)), None)
        self.same(find_renaming(web, with_watch(web, "c", "d", 3)), None)
        self.same(find_renaming(web, with_watch(web, "d", "c", 1)), None)
        self.same(find_renaming(web, plain_web(3)), None)
        self.same(find_renaming(plain_web(3), plain_web(4)), None)
        self.same(find_renaming(plain_web(1), plain_web(1, 1)), None)
        # The same needs and as many watches, but not between the same folk.
        one = Web([("a", 1), ("b", 2)], [("a", "b", 1)])
        self.same(find_renaming(one, Web([("a", 1), ("b", 2)], [("b", "a", 1)])), None)

    def test_the_first_of_all_arrangements(self):
        webs = some_webs()
        for one, other in itertools.product(webs, repeat=2):
            orders = alike_orders(one, other)
            found = find_renaming(one, other)
            if not orders:
                self.same(found, None)
                continue
            pairs = tuple((old, other.names[place]) for old, place in zip(one.names, orders[0]))
            self.same(found.pairs, pairs)
            self.assertIs(is_renaming(one, other, found.pairs), True)

    def test_too_large(self):
        for one, other in ((6, 6), (6, 5), (5, 6), (6, 1), (1, 10)):
            self.refuses(TooLarge("folk", 5), find_renaming, plain_web(one), plain_web(other))
        self.same(len(find_renaming(plain_web(5), plain_web(5)).pairs), 5)


class IsRenaming(Case):
    def other(self):
        """The example with the names z, y, x and w for d, b, a and c."""
        return arranged(example_web(), ["z", "y", "x", "w"], (3, 1, 0, 2))

    def test_right(self):
        web = example_web()
        pairs = [("a", "x"), ("b", "y"), ("c", "w"), ("d", "z")]
        for row in itertools.permutations(pairs):
            self.assertIs(is_renaming(web, self.other(), row), True)
        self.assertIs(is_renaming(web, self.other(), [["a", "y"], ["b", "x"], ["c", "w"], ["d", "z"]]), True)
        self.assertIs(is_renaming(web, web, [(name, name) for name in "abcd"]), True)

    def test_wrong_names(self):
        web = example_web()
        good = [("a", "x"), ("b", "y"), ("c", "w"), ("d", "z")]
        for paper in (
            [], (), good[1:], good[:3], good + good[:1], good[1:] + [("a", "y")], good[1:] + [("b", "x")],
            good[1:] + [("q", "x")], good[1:] + [("a", "q")], good + [("q", "q")], good + [("a", "q")],
            good[1:] + [("x", "a")], [(new, old) for old, new in good], good[1:] + [("", "")],
        ):
            self.assertIs(is_renaming(web, self.other(), paper), False)

    def test_another_need_or_weight(self):
        web = example_web()
        pairs = [("a", "x"), ("b", "y"), ("c", "w"), ("d", "z")]
        other = self.other()
        for changed in (
            with_need(other, "z", 2), with_need(other, "x", 0), with_watch(other, "w", "z", 1),
            with_watch(other, "w", "z", 0), with_watch(other, "z", "w", 1), with_watch(other, "x", "z", 1),
        ):
            self.assertIs(is_renaming(web, changed, pairs), False)
        self.assertIs(is_renaming(web, other, [("a", "x"), ("c", "y"), ("b", "w"), ("d", "z")]), False)

    def test_webs_of_any_size(self):
        for number in (6, 10):
            web = plain_web(number)
            pairs = list(zip(web.names, web.names[::-1]))
            self.assertIs(is_renaming(web, web, pairs), True)
            self.assertIs(is_renaming(web, with_need(web, "m", 1), pairs), False)
            self.assertIs(is_renaming(web, web, pairs[1:]), False)
        self.assertIs(is_renaming(plain_web(2), plain_web(3), [("m", "m"), ("c", "c")]), False)
        self.assertIs(is_renaming(plain_web(3), plain_web(2), [("m", "m"), ("c", "c")]), False)
        self.assertIs(is_renaming(plain_web(3), plain_web(2), [("m", "m"), ("c", "c"), ("x", "c")]), False)
        self.assertIs(is_renaming(plain_web(2), plain_web(3), [("m", "m"), ("c", "c"), ("c", "x")]), False)

    def test_all(self):
        for one, other in itertools.product(some_webs()[:36], repeat=2):
            if len(one.names) == len(other.names) < 4:
                for order in itertools.permutations(range(len(one.names))):
                    pairs = [(old, other.names[place]) for old, place in zip(one.names, order)]
                    self.assertIs(is_renaming(one, other, pairs[::-1]), alike_by(one, other, order))


def slow_canonical(web):
    """The canonical arrangement by the words of point 46."""
    rows = []
    for order in itertools.permutations(range(len(web.names))):
        names = [web.names[place] for place in order]
        needs = tuple(web.need(name) for name in names)
        weights = tuple(
            web.weight(watcher, watched) for watched in names for watcher in names if watcher != watched
        )
        rows.append((needs, weights, order))
    return min(rows)[2]


class Canonical(Case):
    def test_ordinary(self):
        web = Web([("q", 2), ("z", 0), ("m", 2)], [("q", "m", 3), ("z", "q", 1)])
        self.assertTrue(canonical_web(web) == Web([("a", 0), ("b", 2), ("c", 2)], [("c", "b", 3), ("a", "c", 1)]))
        self.same(canonical_renaming(web).pairs, (("q", "c"), ("z", "a"), ("m", "b")))
        self.assertTrue(canonical_web(example_web()) == example_web())
        self.assertTrue(canonical_web(plain_web(1, 7)) == Web([("a", 7)]))

    def test_against_all_arrangements(self):
        for web in some_webs() + small_webs()[24:]:
            order = slow_canonical(web)
            expected = arranged(web, "abcde"[:len(web.names)], order)
            found = canonical_web(web)
            self.assertTrue(found == expected)
            self.same(found.names, tuple("abcde"[:len(web.names)]))
            renaming = canonical_renaming(web)
            self.assertIsInstance(renaming, Renaming)
            self.same(renaming.pairs, tuple((name, "abcde"[order.index(at)]) for at, name in enumerate(web.names)))
            self.assertIs(is_renaming(web, found, renaming.pairs), True)
            self.same(first_difference(arranged(renamed(web, renaming), found.names, order), found), None)

    def test_alike_exactly_if_equal(self):
        webs = some_webs()
        canonical = [canonical_web(web) for web in webs]
        for one, other in itertools.product(range(len(webs)), repeat=2):
            self.assertIs(canonical[one] == canonical[other], find_renaming(webs[one], webs[other]) is not None)

    def test_count_selfs(self):
        self.same(count_selfs(example_web()), 2)
        self.same(count_selfs(plain_web(5)), 120)
        self.same(count_selfs(plain_web(1)), 1)
        self.same(count_selfs(ring_web()), 5)
        for web in some_webs():
            self.same(count_selfs(web), len(alike_orders(web, web)))

    def test_too_large(self):
        for call in (canonical_web, canonical_renaming, count_selfs):
            for number in (6, 10):
                self.refuses(TooLarge("folk", 5), call, plain_web(number))
            call(plain_web(5))


class FirstDifference(Case):
    def test_none(self):
        self.same(first_difference(example_web(), example_web()), None)
        self.same(first_difference(plain_web(10), plain_web(10)), None)

    def test_names(self):
        one = Web([("a", 0), ("b", 1)])
        self.same(first_difference(one, Web([("a", 0), ("c", 1)])), ("folk", "b", "c"))
        self.same(first_difference(one, Web([("b", 1), ("a", 0)])), ("folk", "a", "b"))
        self.same(first_difference(one, Web([("a", 0)])), ("folk", "b", None))
        self.same(first_difference(Web([("a", 0)]), one), ("folk", None, "b"))
        self.same(first_difference(plain_web(2), plain_web(10)), ("folk", None, "x"))
        self.same(first_difference(plain_web(10), plain_web(9)), ("folk", "w", None))

    def test_names_before_needs_before_weights(self):
        one = Web([("a", 0), ("b", 1)], [("a", "b", 1)])
        self.same(first_difference(one, Web([("a", 5), ("c", 1)], [("a", "c", 2)])), ("folk", "b", "c"))
        self.same(first_difference(one, Web([("a", 5), ("b", 2)], [("a", "b", 2)])), ("need", "a", 0, 5))
        self.same(first_difference(one, Web([("a", 0), ("b", 7)], [("b", "a", 2)])), ("need", "b", 1, 7))
        self.same(first_difference(one, Web([("a", 0), ("b", 1), ("c", 2)])), ("folk", None, "c"))

    def test_watches_in_pair_order(self):
        folk = [("z", 0), ("a", 0), ("m", 0)]
        one = Web(folk, [("a", "z", 1), ("z", "a", 2), ("m", "a", 3)])
        self.same(
            first_difference(one, Web(folk, [("a", "z", 1), ("z", "a", 4), ("m", "a", 5)])),
            ("watch", "z", "a", 2, 4),
        )
        self.same(first_difference(one, Web(folk, [("z", "a", 2), ("m", "a", 3)])), ("watch", "a", "z", 1, 0))
        self.same(first_difference(Web(folk), one), ("watch", "a", "z", 0, 1))
        self.same(
            first_difference(one, Web(folk, [("a", "z", 1), ("m", "z", 9), ("m", "a", 3)])), ("watch", "m", "z", 0, 9),
        )
        self.same(first_difference(one, Web(folk, [("a", "z", 1), ("z", "a", 2)])), ("watch", "m", "a", 3, 0))
        self.same(first_difference(one, with_watch(one, "a", "m", 1)), ("watch", "a", "m", 0, 1))

    def test_none_exactly_if_equal(self):
        for one, other in itertools.product(small_webs(), repeat=2):
            found = first_difference(one, other)
            self.assertIs(found is None, one == other)
            back = first_difference(other, one)
            if found is not None:
                self.same(back, found[:-2] + (found[-1], found[-2]))


class Copies(Case):
    def test_what_is_passed_stays(self):
        web = example_web()
        paper = [["b", "b"], ["a", "a"], ["d", "d"], ["c", "c"]]
        before = (find_renaming(web, web).pairs, count_selfs(web), canonical_renaming(web).pairs)
        self.assertIs(is_renaming(web, web, paper), True)
        canonical_web(web)
        after = (find_renaming(web, web).pairs, count_selfs(web), canonical_renaming(web).pairs)
        self.same(after, before)
        self.assertEqual(paper, [["b", "b"], ["a", "a"], ["d", "d"], ["c", "c"]])
        self.assertTrue(web == example_web())

    def test_a_paper_of_texts_of_another_kind(self):
        self.assertIs(is_renaming(plain_web(1), Web([("a", 0)]), [(Text("m"), Text("a"))]), True)
