"""Points 33 and 35: exact lengths, counted histories, farthest worlds and diameters."""

from drowsefolk.errors import BadNumber, NoLength, NotOneClass, Repeated, TooLarge, UnknownFolk
from drowsefolk.fewest import fewest, fewest_history
from drowsefolk.lengths import (
    can_last, count_fewest, count_lasting, diameter, farthest, fewest_histories, history_of_length,
)
from drowsefolk.webs import Web
from tests.helpers import Case, Text, example_web, grouped_web, plain_web, small_webs, subsets
from tests.slow import distances_from, in_world_order, may, pairs_of_worlds, rows_of_deeds

NO_LENGTHS = (-1, 201, True, False, 10 ** 59, -10 ** 59)


def tiny_webs():
    """Those of the small webs whose histories are few enough to be listed."""
    return [web for web in small_webs() if len(web.names) < 4] + [example_web()]


class CanLast(Case):
    def test_below_at_and_above_the_fewest(self):
        web = example_web()
        self.same(fewest(web, ["a"], ["a", "c"]), 3)
        for length, expected in ((0, False), (1, False), (2, False), (3, True), (4, False), (5, True), (6, False)):
            self.assertIs(can_last(web, ["a"], ["c", "a"], length), expected)
        self.assertIs(can_last(web, ["a"], ["c", "a"], 199), True)
        self.assertIs(can_last(web, ["a"], ["c", "a"], 200), False)

    def test_a_world_and_itself(self):
        web = example_web()
        for length, expected in ((0, True), (1, False), (2, True), (3, False), (200, True), (199, False)):
            self.assertIs(can_last(web, ["a"], ["a"], length), expected)

    def test_where_nobody_may_turn(self):
        web = example_web()
        for length in range(1, 8):
            self.assertIs(can_last(web, [], [], length), False)
            self.assertIs(can_last(web, ["c"], ["c"], length), False)
        self.assertIs(can_last(web, [], [], 0), True)
        self.assertIs(can_last(web, [], [], 200), False)

    def test_not_one_class(self):
        for length in range(6):
            self.assertIs(can_last(example_web(), ["a"], ["d"], length), False)

    def test_against_a_search_by_deeds(self):
        for web in tiny_webs():
            for awake, target in pairs_of_worlds(web):
                for length in range(6):
                    expected = len(rows_of_deeds(web, awake, target, length)) > 0
                    self.assertIs(can_last(web, awake[::-1], target, length), expected)

    def test_refused(self):
        web = example_web()
        for length in NO_LENGTHS:
            self.refuses(BadNumber(length), can_last, web, ["a"], ["d"], length)
        self.refuses(UnknownFolk("x"), can_last, web, ["x"], ["y"], -1)
        self.refuses(Repeated("a"), can_last, web, ["a", "a"], ["y"], -1)
        self.refuses(UnknownFolk("y"), can_last, web, ["a"], ["y"], -1)
        self.refuses(Repeated("d"), can_last, web, ["a"], ["d", "d"], True)


class HistoryOfLength(Case):
    def test_ordinary(self):
        web = example_web()
        self.same(history_of_length(web, ["a"], ["c", "a"], 3).deeds, ("b", "c", "b"))
        self.same(history_of_length(web, ["a"], ["c", "a"], 7).deeds, ("b", "b", "b", "b", "b", "c", "b"))
        self.same(history_of_length(web, ["a", "b"], ["a", "b"], 2).deeds, ("a", "a"))
        self.same(history_of_length(web, ["b", "c"], ["c", "b"], 4).deeds, ("a",) * 4)
        self.same(history_of_length(web, [], [], 0).deeds, ())
        self.same(history_of_length(plain_web(1), [], [], 200).deeds, ("m",) * 200)
        self.same(history_of_length(plain_web(1), [], ["m"], 199).deeds, ("m",) * 199)

    def test_all(self):
        for web in small_webs()[:24]:
            for awake, target in pairs_of_worlds(web):
                for length in (0, 1, 2, 3, 4, 7, 8, 9, 200):
                    if not can_last(web, awake, target, length):
                        continue
                    history = history_of_length(web, awake[::-1], list(target), length)
                    shortest = fewest_history(web, awake, target).deeds
                    first = [name for name in web.names if may(web, awake, name)][:1]
                    self.same(history.deeds, tuple(first * (length - len(shortest))) + shortest)
                    self.same((history.first_world, history.last_world), (awake, target))
                    self.assertTrue(history.web == web)

    def test_no_such_length(self):
        web = example_web()
        for length in (0, 1, 2, 4, 200):
            self.refuses(NoLength(length), history_of_length, web, ["a"], ["a", "c"], length)
        for length in (1, 2, 200):
            self.refuses(NoLength(length), history_of_length, web, [], [], length)

    def test_not_one_class(self):
        web = example_web()
        for length in (0, 1, 2, 200):
            self.refuses(NotOneClass(("a", "b", "d")), history_of_length, web, ["c"], ["d"], length)
            self.refuses(NotOneClass(("d",)), history_of_length, web, ["a"], ["a", "d"], length)

    def test_refused(self):
        web = example_web()
        for length in NO_LENGTHS:
            self.refuses(BadNumber(length), history_of_length, web, ["a"], ["d"], length)
        self.refuses(UnknownFolk("x"), history_of_length, web, ["x"], ["y"], -1)
        self.refuses(UnknownFolk("y"), history_of_length, web, ["a"], ["y"], -1)
        self.refuses(Repeated("d"), history_of_length, web, ["a"], ["d", "d"], True)


class CountFewest(Case):
    def test_ordinary(self):
        web = example_web()
        self.same(count_fewest(web, ["a"], ["c", "a"]), 1)
        self.same(count_fewest(web, ["a"], ["a"]), 1)
        self.same(count_fewest(web, [], []), 1)
        self.same(count_fewest(web, ["a"], ["d"]), 0)
        self.same(count_fewest(plain_web(4), [], list(plain_web(4).names)), 24)
        self.same(count_fewest(plain_web(8), ["m"], plain_web(8).names[1:]), 40320)

    def test_against_a_search_by_deeds(self):
        for web in tiny_webs():
            for awake, target in pairs_of_worlds(web):
                found = distances_from(web, awake)
                rows = rows_of_deeds(web, awake, target, found[target]) if target in found else []
                self.same(count_fewest(web, awake[::-1], target), len(rows))
                if len(rows) > 20:
                    self.refuses(TooLarge("histories", 20), fewest_histories, web, awake, target)
                else:
                    self.same(fewest_histories(web, awake, target[::-1]), rows)


class FewestHistories(Case):
    def test_ordinary(self):
        web = example_web()
        self.same(fewest_histories(web, ["a"], ["c", "a"]), [("b", "c", "b")])
        self.same(fewest_histories(web, ["a"], ["a"]), [()])
        self.same(fewest_histories(web, [], []), [()])
        self.same(fewest_histories(web, ["a"], ["d"]), [])
        self.same(fewest_histories(web, ["a", "b", "c"], ["a"]), [("c", "b")])

    def test_in_ascending_order_of_their_places(self):
        web = plain_web(3)
        self.same(
            fewest_histories(web, ["c"], ["m", "x"]),
            [("m", "c", "x"), ("m", "x", "c"), ("c", "m", "x"), ("c", "x", "m"), ("x", "m", "c"), ("x", "c", "m")],
        )

    def test_another_way_than_that_of_the_least_helpers(self):
        web = Web([("x", 1), ("m", 0), ("a", 0)], [("m", "x", 1), ("a", "x", 1)])
        self.same(fewest_histories(web, [], ["x"]), [("m", "x", "m"), ("a", "x", "a")])

    def test_most(self):
        web = plain_web(3)
        for most in (6, 20, 60):
            self.same(len(fewest_histories(web, [], ["m", "c", "x"], most=most)), 6)
        for most in (1, 5):
            self.refuses(TooLarge("histories", most), fewest_histories, web, [], ["m", "c", "x"], most=most)
        self.same(fewest_histories(web, [], [], most=1), [()])
        self.refuses(TooLarge("histories", 20), fewest_histories, plain_web(4), [], plain_web(4).names)
        self.refuses(TooLarge("histories", 60), fewest_histories, plain_web(5), [], plain_web(5).names, most=60)
        for most in (0, 61, -1, True, False, 10 ** 59):
            self.refuses(BadNumber(most), fewest_histories, web, [], ["m"], most=most)
        with self.assertRaises(TypeError):
            fewest_histories(web, [], ["m"], 20)

    def test_in_the_order_of_refusals(self):
        web = plain_web(9)
        self.refuses(UnknownFolk("q"), fewest_histories, web, ["q"], ["r"], most=0)
        self.refuses(Repeated("m"), fewest_histories, web, ["m", "m"], ["r"], most=0)
        self.refuses(UnknownFolk("r"), fewest_histories, web, ["m"], ["r"], most=0)
        self.refuses(BadNumber(0), fewest_histories, web, [], web.names, most=0)
        self.refuses(TooLarge("class", 400), fewest_histories, web, [], web.names, most=1)
        self.refuses(TooLarge("class", 400), fewest_histories, web, [], [], most=1)

    def test_a_list_that_is_returned_is_new(self):
        web = example_web()
        for target in (["c", "a"], ["d"], ["a"]):
            before = fewest_histories(web, ["a"], target)
            fewest_histories(web, ["a"], target).append("x")
            self.same(fewest_histories(web, ["a"], target), before)


class CountLasting(Case):
    def test_ordinary(self):
        web = example_web()
        self.same([count_lasting(web, ["a"], ["c", "a"], length) for length in range(6)], [0, 0, 0, 1, 0, 5])
        self.same([count_lasting(web, [], [], length) for length in range(4)], [1, 0, 0, 0])
        self.same([count_lasting(web, ["a"], ["d"], length) for length in range(4)], [0, 0, 0, 0])
        self.same(count_lasting(plain_web(1), [], [], 12), 1)
        self.same(count_lasting(plain_web(1), [], ["m"], 11), 1)
        self.same(count_lasting(plain_web(2), [], [], 12), 2048)
        self.same(count_lasting(plain_web(6), [], [], 0), 1)

    def test_against_a_search_by_deeds(self):
        for web in tiny_webs():
            for awake, target in pairs_of_worlds(web):
                for length in range(6):
                    expected = len(rows_of_deeds(web, awake, target, length))
                    self.same(count_lasting(web, awake[::-1], list(target), length), expected)

    def test_refused(self):
        web = plain_web(7)
        for length in (-1, 13, 200, True, False, 10 ** 59):
            self.refuses(BadNumber(length), count_lasting, web, [], ["m"], length)
        self.refuses(UnknownFolk("q"), count_lasting, web, ["q"], ["r"], -1)
        self.refuses(UnknownFolk("r"), count_lasting, web, ["m"], ["r"], -1)
        self.refuses(Repeated("m"), count_lasting, web, ["m"], ["m", "m"], -1)
        for length in (0, 12):
            self.refuses(TooLarge("class", 64), count_lasting, web, [], ["m"], length)


class Farthest(Case):
    def test_ordinary(self):
        self.same(farthest(example_web(), ["b"]), (3, [("a", "c"), ("b", "c")]))
        self.same(farthest(example_web(), []), (0, [()]))
        self.same(farthest(example_web(), ["d", "c"]), (0, [("c", "d")]))
        self.same(farthest(plain_web(3), ["x", "m"]), (3, [("c",)]))

    def test_against_a_search_by_deeds(self):
        for web in small_webs():
            for awake in subsets(web.names):
                found = distances_from(web, awake)
                most = max(found.values())
                worlds = in_world_order(web, [world for world in found if found[world] == most])
                self.same(farthest(web, awake[::-1]), (most, worlds))


class Diameter(Case):
    def test_ordinary(self):
        self.same(diameter(example_web(), ["c", "b"]), (3, ("a",), ("a", "c")))
        self.same(diameter(example_web(), []), (0, (), ()))
        self.same(diameter(example_web(), ["d", "c"]), (0, ("c", "d"), ("c", "d")))
        self.same(diameter(plain_web(6), ["m"]), (6, (), plain_web(6).names))

    def test_against_a_search_by_deeds(self):
        for web in small_webs():
            for awake in subsets(web.names):
                members = in_world_order(web, list(distances_from(web, awake)))
                pairs = [(one, other) for one in members for other in members]
                most = max(distances_from(web, one)[other] for one, other in pairs)
                first = [pair for pair in pairs if distances_from(web, pair[0])[pair[1]] == most][0]
                self.same(diameter(web, awake[::-1]), (most,) + first)


class Limits(Case):
    def test_the_class_of_400(self):
        web, awake = grouped_web([5, 5, 2, 2, 2, 2])
        self.same(count_fewest(web, awake, awake), 1)
        self.same(fewest_histories(web, awake, awake), [()])
        self.same(farthest(web, awake)[0] > 0, True)
        web, awake = grouped_web([5, 7, 3, 2, 2])
        for target in ((), awake):
            self.refuses(TooLarge("class", 400), count_fewest, web, awake, target)
            self.refuses(TooLarge("class", 400), fewest_histories, web, awake, target)
            # The class of the target alone is not looked at.
            self.same(count_fewest(web, (), target), 1 if target == () else 0)
            self.same(fewest_histories(web, (), target), [()] if target == () else [])
        self.refuses(TooLarge("class", 400), farthest, web, awake)
        self.refuses(TooLarge("class", 400), farthest, plain_web(9), [])

    def test_the_class_of_64(self):
        web = plain_web(6)
        self.same(count_lasting(web, [], ["m"], 1), 1)
        self.same(diameter(web, [])[0], 6)
        web, awake = grouped_web([5, 7, 2])
        for target in ((), awake):
            self.refuses(TooLarge("class", 64), count_lasting, web, awake, target, 0)
        self.same(count_lasting(web, (), awake, 3), 0)
        self.refuses(TooLarge("class", 64), diameter, web, awake)
        self.refuses(TooLarge("class", 64), diameter, plain_web(9), [])

    def test_the_arguments_go_first(self):
        web = plain_web(9)
        self.refuses(UnknownFolk("q"), count_fewest, web, ["q"], ["r"])
        self.refuses(UnknownFolk("r"), count_fewest, web, ["m"], ["r"])
        self.refuses(Repeated("m"), count_fewest, web, ["m"], ["m", "m"])
        for call in (farthest, diameter):
            self.refuses(UnknownFolk("q"), call, web, ["q"])
            self.refuses(Repeated("m"), call, web, ["m", "m"])


class Copies(Case):
    def test_what_is_passed_stays(self):
        web = example_web()
        awake, target = ["a"], ["c", "a"]
        before = (history_of_length(web, awake, target, 5).deeds, farthest(web, awake), diameter(web, awake))
        fewest_histories(web, awake, target)
        count_lasting(web, awake, target, 7)
        farthest(web, awake)[1].clear()
        after = (history_of_length(web, awake, target, 5).deeds, farthest(web, awake), diameter(web, awake))
        self.same(after, before)
        self.assertEqual((awake, target), (["a"], ["c", "a"]))

    def test_names_told_are_of_pythons_own_kind(self):
        self.same(fewest_histories(plain_web(2), [Text("c")], [Text("m"), "c"]), [("m",)])
        self.same(history_of_length(plain_web(2), [Text("c")], [Text("c")], 2).deeds, ("m", "m"))
