"""Points 23 and 24: nests and closure papers, and point 7 for their judges."""

import itertools

from drowsefolk.closing import closure, is_waking_order, waking_order
from drowsefolk.errors import NotNest, Repeated, TooLarge, UnknownFolk
from drowsefolk.nests import (
    all_nests, avoids, closure_paper, greatest_nest, is_closure_paper, is_nest, is_nest_of, nest_union, outside_weight,
    prime_nests,
)
from drowsefolk.webs import Web
from tests.helpers import Case, Text, example_web, plain_web, small_webs, subsets
from tests.slow import closure_of, distances_from, in_folk_order, is_nest_by_needs, nests_of, outside_of, weight_from


def backward_web():
    """Three folk whose folk order is not the alphabetical one; z and m are a nest, so is a."""
    return Web([("z", 1), ("a", 2), ("m", 1)], [("m", "z", 3), ("z", "m", 2), ("z", "a", 1)])


class OutsideWeight(Case):
    def test_the_named_one_makes_no_difference(self):
        web = example_web()
        self.same(outside_weight(web, ["a"], "c"), 1)
        self.same(outside_weight(web, ["c", "a"], "c"), 1)
        self.same(outside_weight(web, [], "c"), 2)
        self.same(outside_weight(web, ["c"], "c"), 2)
        self.same(outside_weight(web, ["b", "a"], "c"), 0)
        self.same(outside_weight(web, list("dcba"), "c"), 0)

    def test_all(self):
        for web in small_webs():
            for names in subsets(web.names):
                for name in web.names:
                    expected = weight_from(web, outside_of(web, names), name)
                    self.same(outside_weight(web, names[::-1], name), expected)

    def test_refused(self):
        web = example_web()
        self.refuses(UnknownFolk("x"), outside_weight, web, ["a", "x"], "a")
        self.refuses(Repeated("a"), outside_weight, web, ["a", "a"], "a")
        self.refuses(UnknownFolk("y"), outside_weight, web, ["a"], "y")
        self.refuses(Repeated("a"), outside_weight, web, ["a", "a"], "y")
        self.refuses(UnknownFolk("x"), outside_weight, web, ["x"], "y")


class IsNest(Case):
    def test_right(self):
        web = example_web()
        for paper in ([], (), ["d"], ["a", "b"], ("b", "a"), ["c", "a", "b"], ["d", "b", "a"], list("dcba")):
            self.assertIs(is_nest(web, paper), True)

    def test_all_folk_may_be_no_nest(self):
        self.assertIs(is_nest(Web([("a", 0), ("b", 1)]), ["a", "b"]), False)
        self.assertIs(is_nest(Web([("a", 1), ("b", 1)]), ["b", "a"]), True)

    def test_wrong(self):
        web = example_web()
        for paper in (
            ["a"], ["b"], ["c"], ["b", "c"], ["a", "d"], ["d", "d"], ["a", "b", "a"], ["x"], ["d", "x"], ["x", "x"],
            [""], ["d\n"], ["a", "b", "c", "d", "a"], ["a", "b"] * 20,
        ):
            self.assertIs(is_nest(web, paper), False)

    def test_the_need_must_be_greater(self):
        pulls = [("b", "a", 3), ("c", "a", 2)]
        for need, expected in ((4, False), (5, False), (6, True)):
            self.assertIs(is_nest(Web([("a", need), ("b", 0), ("c", 0)], pulls), ["a"]), expected)
        self.assertIs(is_nest(Web([("a", 4), ("b", 9), ("c", 0)], pulls), ["a", "b"]), True)

    def test_all(self):
        for web in small_webs():
            for names in subsets(web.names):
                expected = is_nest_by_needs(web, names)
                self.assertIs(is_nest(web, list(names[::-1])), expected)
                if expected and names:
                    self.assertIs(is_nest(web, names + names[:1]), False)
                    self.assertIs(is_nest(web, names + ("unknown",)), False)


class IsNestOf(Case):
    def test_right_and_wrong(self):
        web = example_web()
        self.assertIs(is_nest_of(web, ["c"], ["b", "a"]), True)
        self.assertIs(is_nest_of(web, ["c"], []), True)
        self.assertIs(is_nest_of(web, list("abcd"), ()), True)
        self.assertIs(is_nest_of(web, [], list("dcba")), True)
        self.assertIs(is_nest_of(web, ["a"], ["b", "a"]), False)
        self.assertIs(is_nest_of(web, ["d", "c"], ["d"]), False)
        self.assertIs(is_nest_of(web, ["d"], ["a"]), False)
        self.assertIs(is_nest_of(web, ["c"], ["a", "b", "b"]), False)
        self.assertIs(is_nest_of(web, ["c"], ["a", "b", "x"]), False)

    def test_nobody_in_it_ever_wakes(self):
        for web in small_webs():
            for awake in subsets(web.names):
                reached = {name for world in distances_from(web, awake) for name in world}
                for names in subsets(web.names):
                    expected = is_nest_by_needs(web, names) and not set(names) & set(awake)
                    self.assertIs(is_nest_of(web, awake, names[::-1]), expected)
                    if expected:
                        self.assertFalse(reached & set(names))

    def test_the_world_is_refused_before_the_paper(self):
        web = example_web()
        for paper in ([], ["q"], ["a", "a"]):
            self.refuses(UnknownFolk("x"), is_nest_of, web, ["x"], paper)
            self.refuses(Repeated("a"), is_nest_of, web, ["a", "a"], paper)


class GreatestNest(Case):
    def test_ordinary(self):
        web = example_web()
        self.same(greatest_nest(web, ["b"]), ("d",))
        self.same(greatest_nest(web, []), ("a", "b", "c", "d"))
        self.same(greatest_nest(web, ["d", "c"]), ("a", "b"))
        self.same(greatest_nest(web, ["a", "d"]), ())
        self.same(greatest_nest(backward_web(), ["a"]), ("z", "m"))

    def test_it_is_the_greatest_of_all(self):
        for web in small_webs():
            for awake in subsets(web.names):
                nests = [set(names) for names in nests_of(web) if not set(names) & set(awake)]
                self.same(greatest_nest(web, awake[::-1]), in_folk_order(web, set().union(*nests)))
                self.same(greatest_nest(web, awake), outside_of(web, closure_of(web, awake)))

    def test_refused(self):
        self.refuses(UnknownFolk("x"), greatest_nest, example_web(), ["a", "x"])
        self.refuses(Repeated("a"), greatest_nest, example_web(), ["a", "a"])


class Avoids(Case):
    def test_ordinary(self):
        web = example_web()
        self.assertIs(avoids(web, ["c"], ["a", "b"]), True)
        self.assertIs(avoids(web, ["c", "b"], ["a", "b"]), False)
        self.assertIs(avoids(web, ["c"], []), True)
        self.assertIs(avoids(web, [], list("dcba")), True)

    def test_names_that_are_no_nest(self):
        web = example_web()
        self.assertIs(is_nest(web, ["a"]), False)
        self.assertIs(avoids(web, ["b"], ["a"]), True)
        self.assertIs(avoids(web, ["b", "a"], ["a"]), False)

    def test_refused(self):
        web = example_web()
        self.refuses(UnknownFolk("x"), avoids, web, ["x"], ["y"])
        self.refuses(Repeated("a"), avoids, web, ["a", "a"], ["y"])
        self.refuses(UnknownFolk("y"), avoids, web, ["a"], ["y"])
        self.refuses(Repeated("b"), avoids, web, ["a"], ["b", "b"])


class NestUnion(Case):
    def test_ordinary(self):
        web = example_web()
        self.same(nest_union(web, ["d"], ["b", "a"]), ("a", "b", "d"))
        self.same(nest_union(web, ["c", "b", "a"], ["b", "a"]), ("a", "b", "c"))
        self.same(nest_union(web, [], ["d"]), ("d",))
        self.same(nest_union(web, [], []), ())
        self.same(nest_union(backward_web(), ["m", "z"], ["a"]), ("z", "a", "m"))

    def test_all(self):
        for web in small_webs():
            for one, other in itertools.product(nests_of(web), repeat=2):
                union = in_folk_order(web, one + other)
                self.same(nest_union(web, one[::-1], other), union)
                self.assertIn(union, nests_of(web))

    def test_no_nest(self):
        web = example_web()
        self.refuses(NotNest(("a", "c")), nest_union, web, ["c", "a"], ["d"])
        self.refuses(NotNest(("b", "c")), nest_union, web, ["d"], ["c", "b"])
        self.refuses(NotNest(("a",)), nest_union, web, ["a"], ["c", "b"])
        self.refuses(NotNest(("z",)), nest_union, backward_web(), ["z"], ["m"])

    def test_after_both_names_arguments(self):
        web = example_web()
        self.refuses(UnknownFolk("x"), nest_union, web, ["x"], ["y"])
        self.refuses(Repeated("a"), nest_union, web, ["a", "a"], ["y"])
        self.refuses(UnknownFolk("y"), nest_union, web, ["a"], ["y"])
        self.refuses(Repeated("d"), nest_union, web, ["a"], ["d", "d"])


class AllNests(Case):
    def test_the_example(self):
        self.same(prime_nests(example_web()), [("d",), ("a", "b"), ("a", "b", "c")])
        self.same(
            all_nests(example_web()),
            [(), ("d",), ("a", "b"), ("a", "b", "c"), ("a", "b", "d"), ("a", "b", "c", "d")],
        )

    def test_few(self):
        self.same(all_nests(Web([("a", 0)])), [()])
        self.same(prime_nests(Web([("a", 0)])), [])
        self.same(all_nests(Web([("a", 1)])), [(), ("a",)])
        self.same(prime_nests(Web([("a", 1)])), [("a",)])
        # a needs more than z gives; z and m can wake each other, but nobody else can wake one of them.
        self.same(all_nests(backward_web()), [(), ("a",), ("z", "m"), ("z", "a", "m")])
        self.same(prime_nests(backward_web()), [("a",), ("z", "m")])

    def test_all(self):
        for web in small_webs():
            nests = nests_of(web)
            self.same(all_nests(web), nests)
            prime = []
            for nest in nests:
                parts = [set(part) for part in nests if set(part) < set(nest)]
                if nest and set().union(*parts) != set(nest):
                    prime.append(nest)
            self.same(prime_nests(web), prime)

    def test_every_nest_is_the_union_of_the_prime_nests_within_it(self):
        for web in small_webs():
            primes = prime_nests(web)
            for nest in all_nests(web):
                parts = [set(prime) for prime in primes if set(prime) <= set(nest)]
                self.assertEqual(set().union(*parts), set(nest))

    def test_eight_and_nine_folk(self):
        for call in (all_nests, prime_nests):
            self.refuses(TooLarge("folk", 8), call, plain_web(9, 1))
            self.refuses(TooLarge("folk", 8), call, plain_web(10))
        web = plain_web(8, 1)
        self.same(all_nests(web), [in_folk_order(web, names) for names in subsets(web.names)])
        self.same(prime_nests(web), [(name,) for name in web.names])
        self.same(all_nests(plain_web(8)), [()])

    def test_a_list_that_is_returned_is_new(self):
        web = example_web()
        for call in (all_nests, prime_nests):
            before = list(call(web))
            call(web).clear()
            self.same(call(web), before)


class ClosurePaper(Case):
    def test_ordinary(self):
        web = example_web()
        self.same(closure_paper(web, ["b"]), (("a", "c"), ("d",)))
        self.same(closure_paper(web, []), ((), ("a", "b", "c", "d")))
        self.same(closure_paper(web, list("dcba")), ((), ()))

    def test_all(self):
        for web in small_webs():
            for awake in subsets(web.names):
                paper = closure_paper(web, awake[::-1])
                self.same(paper, (waking_order(web, awake), greatest_nest(web, awake)))
                for target in subsets(web.names):
                    expected = target == closure_of(web, awake)
                    self.assertIs(is_closure_paper(web, awake, target[::-1], paper), expected)

    def test_refused(self):
        self.refuses(UnknownFolk("x"), closure_paper, example_web(), ["x"])
        self.refuses(Repeated("a"), closure_paper, example_web(), ["a", "a"])


class IsClosurePaper(Case):
    def test_lists_and_another_order(self):
        web = Web([("a", 0), ("b", 1), ("c", 0), ("d", 3), ("e", 2)], [("c", "b", 1), ("d", "e", 1)])
        target = ["c", "b", "a"]
        self.same(closure_paper(web, []), (("a", "c", "b"), ("d", "e")))
        for order in (["a", "c", "b"], ["c", "a", "b"], ("c", "b", "a")):
            for nest in (["d", "e"], ("e", "d")):
                self.assertIs(is_closure_paper(web, [], target, [order, nest]), True)
                self.assertIs(is_closure_paper(web, [], target, (order, nest)), True)
        self.assertIs(is_closure_paper(web, [], target, (["b", "c", "a"], ["d", "e"])), False)
        self.assertIs(is_closure_paper(web, [], target, (["a", "c"], ["d", "e"])), False)
        self.assertIs(is_closure_paper(web, [], ["a", "c"], (["a", "c"], ["d", "e", "b"])), False)
        self.assertIs(is_closure_paper(web, [], ["a", "c"], (["a", "c"], ["d", "e"])), False)

    def test_a_wrong_order(self):
        web = example_web()
        target = ["a", "b", "c"]
        for order in (
            ["a"], ["a", "c", "c"], ["a", "c", "a"], ["c", "a"], ["a", "c", "x"], ["b", "a", "c"], [], ["a"] * 300,
        ):
            self.assertIs(is_closure_paper(web, ["b"], target, (order, ["d"])), False)

    def test_a_wrong_nest(self):
        web = example_web()
        target = ["a", "b", "c"]
        self.assertIs(is_closure_paper(web, ["b"], target, (["a", "c"], ["d"])), True)
        for nest in ([], ["a", "b"], ["d", "d"], ["x"], ["d", "x"], ["d", "c"], ["a", "b", "d"]):
            self.assertIs(is_closure_paper(web, ["b"], target, (["a", "c"], nest)), False)
        # The rest of the folk must be a nest: who is awake need not be, but who is asleep may not wake.
        self.assertIs(is_closure_paper(web, ["b"], ["a", "b"], (["a"], ["c", "d"])), False)

    def test_more_or_fewer_parts(self):
        web = example_web()
        for paper in ((), [], (["a", "c"],), (["a", "c"], ["d"], []), (["a", "c"], ["d"], ["d"]), (None,), (1, 2, 3)):
            self.assertIs(is_closure_paper(web, ["b"], ["a", "b", "c"], paper), False)

    def test_the_other_arguments_are_refused_before_the_paper(self):
        web = example_web()
        for paper in ((), (["q"], ["q"]), (["a", "c"], ["d"])):
            self.refuses(UnknownFolk("x"), is_closure_paper, web, ["x"], ["y"], paper)
            self.refuses(Repeated("a"), is_closure_paper, web, ["a", "a"], ["y"], paper)
            self.refuses(UnknownFolk("y"), is_closure_paper, web, ["b"], ["y"], paper)
            self.refuses(Repeated("c"), is_closure_paper, web, ["b"], ["c", "c"], paper)

    def test_all_papers(self):
        for web in small_webs()[:12]:
            for awake in subsets(web.names)[:6]:
                for target in subsets(web.names):
                    for size in range(3):
                        for order in itertools.permutations(web.names, size):
                            for nest in subsets(web.names):
                                expected = (
                                    is_waking_order(web, awake, target, order) and is_nest_by_needs(web, nest)
                                    and nest == outside_of(web, target)
                                )
                                found = is_closure_paper(web, awake, target, (order, nest))
                                self.assertIs(found, expected)
                                if expected:
                                    self.same(closure(web, awake), target)


class Copies(Case):
    def test_what_is_passed_stays(self):
        web = example_web()
        awake, names, paper = ["b"], ["d", "b"], [["a", "c"], ["d"]]
        before = (greatest_nest(web, awake), outside_weight(web, names, "c"), closure_paper(web, awake))
        self.assertIs(is_closure_paper(web, awake, ["c", "b", "a"], paper), True)
        all_nests(web)
        after = (greatest_nest(web, awake), outside_weight(web, names, "c"), closure_paper(web, awake))
        self.same(after, before)
        self.assertEqual((awake, names, paper), (["b"], ["d", "b"], [["a", "c"], ["d"]]))
        self.assertTrue(web == example_web())

    def test_names_told_are_of_pythons_own_kind(self):
        web = plain_web(2, 1)
        self.same(greatest_nest(web, [Text("c")]), ("m",))
        self.same(nest_union(web, [Text("c")], [Text("m")]), ("m", "c"))
        self.refuses(NotNest(("m",)), nest_union, plain_web(2), [Text("m")], [])
