"""Points 31, 32 and 34: helpers, fewest deeds, tables of distances, and point 7 for the judges."""

from drowsefolk.closing import closure, waking_order
from drowsefolk.deeds import turn, turners
from drowsefolk.errors import BadNumber, NotOneClass, Repeated, TooLarge, UnknownFolk
from drowsefolk.fewest import (
    distance_table, fewest, fewest_history, helpers, is_bound_table, is_helpers, least_helpers,
)
from drowsefolk.reach import needed, parting_nest
from drowsefolk.webs import Web, differing
from tests.helpers import Case, Text, example_web, grouped_web, plain_web, small_webs, subsets
from tests.slow import closure_of, distances_from, in_folk_order, in_world_order, outside_of, pairs_of_worlds


def two_ways_web():
    """z, a and m wake alone; c is woken by z, or by a and m together."""
    return Web(
        [("z", 0), ("a", 0), ("m", 0), ("c", 2), ("d", 1)],
        [("z", "c", 2), ("a", "c", 1), ("m", "c", 1), ("c", "d", 1)],
    )


def long_way_web():
    """Folk who wake only one behind the other, s at first; q needs s and the last of them."""
    return Web(
        [("s", 0), ("a", 1), ("b", 1), ("c", 1), ("q", 2)],
        [("s", "a", 1), ("a", "b", 1), ("b", "c", 1), ("c", "q", 1), ("s", "q", 1)],
    )


def are_helpers_by_search(web, awake, target, names):
    """True if the names let both worlds wake all of them and of both worlds, while nobody else wakes."""
    if set(names) & set(awake + target):
        return False
    union = in_folk_order(web, awake + target + names)
    return closure_of(web, awake, union) == union and closure_of(web, target, union) == union


class Helpers(Case):
    def test_ordinary(self):
        web = example_web()
        self.same(helpers(web, ["a"], ["c", "a"]), ("b",))
        self.same(helpers(web, ["b"], ["a"]), ())
        self.same(helpers(two_ways_web(), ["c"], []), ("z",))
        self.same(helpers(two_ways_web(), ["c", "a"], ["a"]), ("z",))
        self.same(helpers(long_way_web(), ["q"], []), ("s", "a", "b", "c"))

    def test_several_least_ones(self):
        web = two_ways_web()
        self.same(least_helpers(web, ["c"], []), [("z",)])
        self.same(least_helpers(web, ["c", "a"], ["a"]), [("z",), ("m",)])
        self.same(helpers(web, ["c", "a"], ["a"]), ("z",))
        equal = Web([("x", 1), ("m", 0), ("a", 0)], [("m", "x", 1), ("a", "x", 1)])
        self.same(least_helpers(equal, ["x"], []), [("m",), ("a",)])

    def test_a_world_and_itself(self):
        for web in small_webs():
            for awake in subsets(web.names):
                self.same(helpers(web, awake, awake[::-1]), ())
                self.same(least_helpers(web, awake, awake), [()])
                self.same(fewest(web, awake, awake), 0)
                self.same(fewest_history(web, awake, awake).deeds, ())
                self.assertIs(is_helpers(web, awake, awake, []), True)

    def test_closing_in_the_whole_web_does_not_find_them(self):
        # c and s let q turn, but c does not wake without b, nor b without a: c alone helps nobody.
        web = long_way_web()
        self.same(closure(web, ["s", "c"]), ("s", "a", "b", "c", "q"))
        self.same(helpers(web, ["s", "q"], ["s"]), ("a", "b", "c"))
        self.assertIs(is_helpers(web, ["s", "q"], ["s"], ["c"]), False)
        self.assertIs(is_helpers(web, ["s", "q"], ["s"], ["b", "c"]), False)
        self.assertIs(is_helpers(web, ["s", "q"], ["s"], ["c", "b", "a"]), True)
        self.same(fewest(web, ["s", "q"], ["s"]), 7)

    def test_members_of_the_worlds_who_need_somebody_outside(self):
        # d may turn only while c is awake, and c only while b is: in neither world is one of them awake.
        web = Web([("b", 0), ("c", 1), ("d", 1), ("e", 0)], [("b", "c", 1), ("c", "d", 1)])
        self.same(helpers(web, ["d", "e"], ["e"]), ("b", "c"))
        self.same(helpers(web, ["d", "e"], ["d"]), ())
        self.same(fewest_history(web, ["d", "e"], ["e"]).deeds, ("b", "c", "d", "c", "b"))

    def test_against_a_search_by_deeds(self):
        for web in small_webs():
            for awake, target in pairs_of_worlds(web):
                reached = distances_from(web, awake)
                if target not in reached:
                    continue
                sets = [
                    names for names in in_world_order(web, subsets(outside_of(web, awake + target)))
                    if are_helpers_by_search(web, awake, target, names)
                ]
                least = [names for names in sets if len(names) == len(sets[0])]
                self.same(least_helpers(web, awake[::-1], target), least)
                self.same(helpers(web, awake, target[::-1]), least[0])
                self.same(fewest(web, awake, list(target)), reached[target])
                self.same(fewest(web, awake, target), len(differing(web, awake, target)) + 2 * len(least[0]))
                missing = set(needed(web, awake, target)) - set(awake + target)
                self.assertTrue(all(missing <= set(names) for names in sets))

    def test_the_fewest_history(self):
        self.same(fewest_history(example_web(), ["a"], ["a", "c"]).deeds, ("b", "c", "b"))
        for web in small_webs():
            for awake, target in pairs_of_worlds(web):
                reached = distances_from(web, awake)
                if target not in reached:
                    continue
                history = fewest_history(web, awake[::-1], target)
                union = awake + target + helpers(web, awake, target)
                union = in_folk_order(web, union)
                back = waking_order(web, target, within=union)[::-1]
                self.same(history.deeds, waking_order(web, awake, within=union) + back)
                self.same((history.first_world, history.last_world), (awake, target))
                self.same(len(history), reached[target])
                self.assertTrue(history.web == web)

    def test_refused(self):
        web = example_web()
        for call in (helpers, least_helpers, fewest, fewest_history):
            self.refuses(NotOneClass(("d",)), call, web, ["a"], ["a", "d"])
            self.refuses(NotOneClass(("a", "b", "d")), call, web, ["c"], ["d"])
            self.refuses(UnknownFolk("x"), call, web, ["x"], ["y"])
            self.refuses(Repeated("a"), call, web, ["a", "a"], ["y"])
            self.refuses(UnknownFolk("y"), call, web, ["a"], ["d", "y"])
            self.refuses(Repeated("d"), call, web, ["a"], ["d", "d"])
        for web in small_webs()[:20]:
            for awake, target in pairs_of_worlds(web):
                if target not in distances_from(web, awake):
                    nest = parting_nest(web, awake, target)
                    for call in (helpers, least_helpers, fewest, fewest_history):
                        self.refuses(NotOneClass(nest), call, web, awake, target)


class IsHelpers(Case):
    def test_right(self):
        web = two_ways_web()
        for paper in (["z"], ["m", "a"], ("a", "m"), ["m", "z", "a"], ["d", "z"], ["d", "a", "m"]):
            self.assertIs(is_helpers(web, ["c"], [], paper), True)
        # Not only a least set is right.
        self.same(helpers(web, ["a"], []), ())
        self.assertIs(is_helpers(web, ["a"], [], ["z", "c", "d"]), True)

    def test_wrong(self):
        web = two_ways_web()
        for paper in ([], ["a"], ["d"], ["z", "z"], ["x"], ["z", "x"], ["z", "c"], ["z"] * 300, [""]):
            self.assertIs(is_helpers(web, ["c"], [], paper), False)
        # Somebody who is awake in the target alone is no helper either.
        self.assertIs(is_helpers(web, [], ["z"], ["z"]), False)
        self.assertIs(is_helpers(web, ["z"], [], ["z"]), False)

    def test_not_one_class(self):
        web = example_web()
        for paper in ([], ["b"], ["b", "c"], ["b", "c", "d"]):
            self.assertIs(is_helpers(web, ["a"], ["d"], paper), False)
            self.assertIs(is_helpers(web, ["d"], ["a"], paper), False)

    def test_all(self):
        for web in small_webs():
            for awake, target in pairs_of_worlds(web):
                reached = target in distances_from(web, awake)
                for names in subsets(web.names):
                    expected = are_helpers_by_search(web, awake, target, names)
                    self.assertIs(is_helpers(web, awake, target, names[::-1]), expected)
                    self.assertLessEqual(expected, reached)

    def test_the_worlds_are_refused_before_the_paper(self):
        web = example_web()
        for paper in ([], ["q"], ["a", "a"]):
            self.refuses(UnknownFolk("x"), is_helpers, web, ["x"], ["y"], paper)
            self.refuses(Repeated("a"), is_helpers, web, ["a", "a"], ["y"], paper)
            self.refuses(UnknownFolk("y"), is_helpers, web, ["a"], ["y"], paper)
            self.refuses(Repeated("b"), is_helpers, web, ["a"], ["b", "b"], paper)


class DistanceTable(Case):
    def test_ordinary(self):
        self.same(
            distance_table(example_web(), ["a"]),
            [(("a",), 0), (("b",), 2), (("a", "b"), 1), (("a", "c"), 3), (("b", "c"), 3), (("a", "b", "c"), 2)],
        )
        self.same(distance_table(example_web(), []), [((), 0)])
        self.same(distance_table(plain_web(1), ["m"]), [((), 1), (("m",), 0)])

    def test_all(self):
        for web in small_webs():
            for awake in subsets(web.names):
                found = distances_from(web, awake)
                expected = [(world, found[world]) for world in in_world_order(web, list(found))]
                self.same(distance_table(web, awake[::-1]), expected)

    def test_too_large(self):
        web, awake = grouped_web([5, 5, 2, 2, 2, 2])
        self.same(len(web.names), 10)
        self.same(len(distance_table(web, awake)), 400)
        larger, awake = grouped_web([5, 7, 3, 2, 2])
        self.refuses(TooLarge("class", 400), distance_table, larger, awake)
        # Only the class of this world counts.
        self.same(len(distance_table(larger, awake[1:])), 84)
        self.refuses(TooLarge("class", 400), distance_table, plain_web(9), [])
        self.same(len(distance_table(plain_web(8), [])), 256)

    def test_refused(self):
        self.refuses(UnknownFolk("q"), distance_table, plain_web(9), ["q"])
        self.refuses(Repeated("m"), distance_table, plain_web(10), ["m", "m"])

    def test_a_list_that_is_returned_is_new(self):
        web = example_web()
        before = distance_table(web, ["a"])
        distance_table(web, ["a"]).clear()
        self.same(distance_table(web, ["a"]), before)


def is_right_table(web, awake, target, rows, bound):
    """True if the rows are a bound table, by the words of point 34."""
    worlds = [in_folk_order(web, names) for names, number in rows]
    numbers = {world: number for world, (names, number) in zip(worlds, rows)}
    if len(set(worlds)) != len(rows) or len(rows) > 400:
        return False
    if numbers.get(awake, 1) > 0 or numbers.get(target, bound - 1) < bound:
        return False
    for world in worlds:
        for name in turners(web, world):
            other = turn(web, world, name)
            if other not in numbers or numbers[other] > numbers[world] + 1:
                return False
    return True


class IsBoundTable(Case):
    def rows(self):
        """The table of the example from a."""
        return [["a"], 0], [["b"], 2], [["b", "a"], 1], [["a", "c"], 3], [["c", "b"], 3], [["c", "a", "b"], 2]

    def test_right(self):
        web = example_web()
        rows = list(self.rows())
        for bound in (0, 1, 2, 3):
            self.assertIs(is_bound_table(web, ["a"], ["c", "a"], rows, bound), True)
            self.assertIs(is_bound_table(web, ["a"], ["c", "a"], tuple(rows[::-1]), bound), True)
        self.assertIs(is_bound_table(web, ["a"], ["c", "a"], rows, 4), False)
        self.assertIs(is_bound_table(web, ["a"], ["a"], rows, 0), True)
        self.assertIs(is_bound_table(web, ["a"], ["a"], rows, 1), False)

    def test_numbers_below_zero_and_lower_ones(self):
        web = example_web()
        lower = [(names, number - 5) for names, number in self.rows()]
        self.assertIs(is_bound_table(web, ["a"], ["c", "a"], lower, 0), False)
        self.assertIs(is_bound_table(web, ["a", "b"], ["c", "a"], [(n, k - 1) for n, k in self.rows()], 2), True)
        self.assertIs(is_bound_table(web, ["a", "b"], ["c", "a"], self.rows(), 2), False)
        self.assertIs(is_bound_table(web, ["a"], ["c", "a"], [(n, 0) for n, k in self.rows()], 0), True)
        self.assertIs(is_bound_table(web, ["a"], ["c", "a"], [(n, -10 ** 59) for n, k in self.rows()], 0), False)
        many = [(names, number * 10 ** 58) for names, number in self.rows()]
        self.assertIs(is_bound_table(web, ["a"], ["c", "a"], many, 3), False)
        # The first world may have a number below 0, and then the steps count from there.
        first_lower = [(["m"], -1), ([], 0)]
        self.assertIs(is_bound_table(plain_web(1), ["m"], [], first_lower, 0), True)
        self.assertIs(is_bound_table(plain_web(1), ["m"], [], [(["m"], -1), ([], 1)], 1), False)

    def test_rows_of_other_classes(self):
        web = example_web()
        rows = list(self.rows()) + [([], 77), (["c"], -4)]
        self.assertIs(is_bound_table(web, ["a"], ["c", "a"], rows, 3), True)
        # The two worlds need not be of one class.
        self.assertIs(is_bound_table(web, ["a"], ["c"], list(self.rows()) + [(["c"], 200)], 200), True)
        self.assertIs(is_bound_table(web, ["a"], ["c"], list(self.rows()) + [(["c"], 199)], 200), False)
        self.assertIs(is_bound_table(web, ["a"], ["c"], self.rows(), 0), False)
        self.assertIs(is_bound_table(web, [], ["c"], [([], 0), (["c"], 5)], 5), True)
        # A row on which nothing depends counts too.
        self.assertIs(is_bound_table(web, ["a"], ["c", "a"], list(self.rows()) + [(["a", "d"], 3)], 3), False)

    def test_a_world_twice(self):
        web = example_web()
        for row in ((["a"], 0), (["a", "c"], 3), (["c", "a"], 3), (["c", "a"], 4)):
            self.assertIs(is_bound_table(web, ["a"], ["c", "a"], list(self.rows()) + [row], 3), False)

    def test_a_name_twice_or_unknown(self):
        web = example_web()
        for names in (["c", "c"], ["c", "c", "a"], ["x"], [""], ["c", "x"]):
            self.assertIs(is_bound_table(web, ["a"], ["c", "a"], list(self.rows()) + [(names, 0)], 3), False)
        rows = [(["a", "a"], 0)] + list(self.rows())[1:]
        self.assertIs(is_bound_table(web, ["a"], ["c", "a"], rows, 3), False)

    def test_a_bool_is_no_number(self):
        web = plain_web(1)
        self.assertIs(is_bound_table(web, [], ["m"], [([], 0), (["m"], 1)], 1), True)
        self.assertIs(is_bound_table(web, [], ["m"], [([], 0), (["m"], True)], 1), False)
        self.assertIs(is_bound_table(web, [], ["m"], [([], False), (["m"], 1)], 1), False)
        self.assertIs(is_bound_table(example_web(), [], [], [([], 0), (["c"], True)], 0), False)

    def test_a_neighbour_that_lacks(self):
        web = example_web()
        for place in range(6):
            rows = list(self.rows())
            del rows[place]
            self.assertIs(is_bound_table(web, ["a"], ["c", "a"], rows, 3), False)
        self.assertIs(is_bound_table(web, [], [], [([], 0)], 0), True)
        self.assertIs(is_bound_table(plain_web(1), [], [], [([], 0)], 0), False)
        self.assertIs(is_bound_table(plain_web(1), [], [], [], 0), False)

    def test_a_step_of_two(self):
        web = example_web()
        for place in range(1, 6):
            rows = [[names, number] for names, number in self.rows()]
            rows[place][1] += 2
            self.assertIs(is_bound_table(web, ["a"], ["a"], rows, 0), False)

    def test_400_and_401_pairs(self):
        web = plain_web(9)
        sleepy = Web([(name, 1) for name in web.names])
        rows = [(names, 0) for names in subsets(web.names)]
        self.assertEqual(len(rows), 512)
        self.assertIs(is_bound_table(sleepy, [], ["m"], rows[:400], 0), True)
        self.assertIs(is_bound_table(sleepy, [], ["m"], rows[:401], 0), False)
        self.assertIs(is_bound_table(sleepy, [], ["m"], rows, 0), False)
        self.assertIs(is_bound_table(sleepy, [], ["m"], [(["q"], 0)] * 401, 0), False)

    def test_tables_of_distances(self):
        for web in small_webs():
            for awake, target in pairs_of_worlds(web):
                table = distance_table(web, awake)
                number = dict(table).get(target, -1)
                for bound in range(0, 8):
                    found = is_bound_table(web, awake[::-1], list(target), table[::-1], bound)
                    self.assertIs(found, bound <= number)

    def test_changed_tables(self):
        for web in [one for one in small_webs()[:24] if len(one.names) < 4]:
            for awake, target in pairs_of_worlds(web):
                table = distance_table(web, awake)
                for place, (world, number) in enumerate(table):
                    for other in (number - 1, number + 1, number + 2):
                        rows = table[:place] + [(world[::-1], other)] + table[place + 1:]
                        for bound in (0, 1, 2, 3):
                            expected = is_right_table(web, awake, target, rows, bound)
                            self.assertIs(is_bound_table(web, awake, target, rows, bound), expected)

    def test_the_bound_is_examined_ahead_of_the_paper(self):
        web = example_web()
        for paper in ([], [(["q"], 0)], self.rows()):
            for bound in (-1, 201, True, False, 10 ** 59):
                self.refuses(BadNumber(bound), is_bound_table, web, ["a"], ["c"], paper, bound)
            self.refuses(UnknownFolk("x"), is_bound_table, web, ["x"], ["y"], paper, -1)
            self.refuses(Repeated("a"), is_bound_table, web, ["a", "a"], ["y"], paper, -1)
            self.refuses(UnknownFolk("y"), is_bound_table, web, ["a"], ["y"], paper, -1)
            self.refuses(Repeated("b"), is_bound_table, web, ["a"], ["b", "b"], paper, -1)
        self.assertIs(is_bound_table(web, ["a"], ["c"], self.rows(), 200), False)


class Copies(Case):
    def test_what_is_passed_stays(self):
        web = example_web()
        awake, target, paper = ["a"], ["c", "a"], [[["a"], 0], [["b", "a"], 1]]
        before = (least_helpers(web, awake, target), fewest_history(web, awake, target).deeds)
        self.assertIs(is_bound_table(web, awake, target, paper, 3), False)
        self.assertIs(is_helpers(web, awake, target, ["b"]), True)
        least_helpers(web, awake, target).clear()
        after = (least_helpers(web, awake, target), fewest_history(web, awake, target).deeds)
        self.same(after, before)
        self.assertEqual((awake, target, paper), (["a"], ["c", "a"], [[["a"], 0], [["b", "a"], 1]]))

    def test_names_told_are_of_pythons_own_kind(self):
        web = Web([("x", 1), ("m", 0)], [("m", "x", 1)])
        self.same(helpers(web, [Text("x")], []), ("m",))
        self.same(distance_table(plain_web(1), [Text("m")]), [((), 1), (("m",), 0)])
