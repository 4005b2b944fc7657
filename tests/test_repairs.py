"""Points 68 to 71: wrong sightings, lowered needs, laid weights, and watches that are cut."""

import copy
import itertools

from drowsefolk.diaries import Diary, diary_fits
from drowsefolk.errors import (
    BadCount, BadNumber, NoRepair, NoWatch, Repeated, SelfWatch, TooLarge, UnknownFolk,
)
from drowsefolk.repairs import (
    blanked, is_lowering, is_thin_wrong, laid, least_cuts, least_layings, least_lowerings, least_wrong, lowered,
    thin_wrong, without_watches,
)
from drowsefolk.webs import Web, all_worlds, with_need, with_watch
from tests.helpers import Case, Number, Row, Text, example_web, full_web, kinds, plain_web, small_webs, subsets
from tests.slow import distances_from, in_folk_order
from tests.test_diaries import example_diary, some_diaries, some_sightings


def wrong_diary():
    """A diary of four sightings; it fits without 1 and 3, or without 4 and one of 1 and 2."""
    return example_diary([(0, 0, ["b"], []), (1, 1, ["b"], []), (0, 0, [], ["b"]), (0, None, ["a"], [])])


def is_wrong_by_words(diary, places):
    """True if the diary fits when these sightings are blanked."""
    rows = [
        (least, most, (), ()) if place in places else (least, most, up, down)
        for place, (least, most, up, down) in enumerate(diary.sightings, start=1)
    ]
    return diary_fits(Diary(diary.web, diary.first_world, rows))


def thin_sets_by_search(diary):
    """All thin wrong sets of any size, found among all sets."""
    moments = range(1, len(diary) + 1)
    sets = [part for size in range(len(diary) + 1) for part in itertools.combinations(moments, size)]
    wrong = [part for part in sets if is_wrong_by_words(diary, part)]
    return [
        part for part in wrong
        if not any(set(other) == set(part) - {place} for place in part for other in wrong)
    ]


class Blanked(Case):
    def test_ordinary(self):
        diary = wrong_diary()
        self.assertTrue(blanked(diary, []) == diary)
        self.assertTrue(blanked(diary, [4, 2]) == example_diary([
            (0, 0, ["b"], []), (1, 1, [], []), (0, 0, [], ["b"]), (0, None, [], []),
        ]))
        self.assertTrue(blanked(diary, (1, 2, 3, 4)) == example_diary([
            (0, 0, [], []), (1, 1, [], []), (0, 0, [], []), (0, None, [], []),
        ]))
        self.assertTrue(diary == wrong_diary())

    def test_refused(self):
        for place in (0, 5, -1, True, False, 10 ** 59):
            self.refuses(BadNumber(place), blanked, wrong_diary(), [1, place, 1])
        self.refuses(Repeated(2), blanked, wrong_diary(), [1, 2, 2, 9])
        self.refuses(Repeated(1), blanked, wrong_diary(), (1, 2, 1))
        self.refuses(BadNumber(True), blanked, wrong_diary(), [1, True])
        self.refuses(BadNumber(1), blanked, example_diary([]), [1])
        self.refuses(Repeated(2), blanked, wrong_diary(), [Number(2), Number(2)])


class ThinWrong(Case):
    def test_ordinary(self):
        diary = wrong_diary()
        self.assertFalse(diary_fits(diary))
        expected = thin_sets_by_search(diary)
        self.same(thin_wrong(diary, most=3), [part for part in expected if len(part) < 4])
        self.same(thin_wrong(diary), [part for part in expected if len(part) < 3])

    def test_one_alone_or_two_others(self):
        # The first and the second world are told: both hold, or neither.
        diary = example_diary([(0, 0, ["d"], []), (0, None, ["c"], []), (0, 0, ["d"], [])])
        self.same(thin_wrong(diary, most=3), [(1, 3)])
        self.same(thin_wrong(diary, most=1), [])
        self.same(least_wrong(diary), [(1, 3)])
        self.refuses(NoRepair(1), least_wrong, diary, most=1)
        self.refuses(NoRepair(0), least_wrong, diary, most=0)

    def test_sets_of_unlike_sizes(self):
        # a stays awake for no deed; either the one sighting is wrong or the two others are.
        diary = example_diary([(0, 0, [], ["a"]), (0, 0, ["a"], []), (0, 0, ["a"], [])])
        self.same(thin_wrong(diary, most=3), [(1,)])
        diary = example_diary([(0, 2, ["c"], []), (0, 0, [], ["c"]), (0, 0, [], ["c"])])
        self.same(thin_wrong(diary, most=3), [(1,), (2, 3)])
        self.same(least_wrong(diary, most=3), [(1,)])
        self.same(least_wrong(diary), [(1,)])

    def test_three_at_once(self):
        diary = example_diary([(0, 0, ["d"], [])] * 3)
        self.same(thin_wrong(diary), [])
        self.same(thin_wrong(diary, most=3), [(1, 2, 3)])
        self.refuses(NoRepair(2), least_wrong, diary)
        self.same(least_wrong(diary, most=3), [(1, 2, 3)])

    def test_a_diary_that_fits(self):
        for most in range(4):
            self.same(thin_wrong(example_diary(), most=most), [()])
            self.same(least_wrong(example_diary(), most=most), [()])
        self.same(thin_wrong(example_diary([])), [()])

    def test_a_diary_that_no_blanking_makes_fit(self):
        # Nobody may turn, but a deed was done.
        diary = Diary(plain_web(2, 1), [], [(1, 1, [], []), (0, 0, ["m"], [])])
        for most in range(4):
            self.same(thin_wrong(diary, most=most), [])
            self.refuses(NoRepair(most), least_wrong, diary, most=most)
        self.refuses(NoRepair(2), least_wrong, diary)

    def test_against_a_search(self):
        several = 0
        for diary in some_diaries():
            expected = thin_sets_by_search(diary)
            for most in range(4):
                found = [part for part in expected if len(part) <= most]
                self.same(thin_wrong(diary, most=most), found)
                if found:
                    least = min(len(part) for part in found)
                    self.same(least_wrong(diary, most=most), [part for part in found if len(part) == least])
                else:
                    self.refuses(NoRepair(most), least_wrong, diary, most=most)
            several += len(expected) > 1
            for size in range(len(diary) + 1):
                for part in itertools.permutations(range(1, len(diary) + 1), size):
                    self.assertIs(is_thin_wrong(diary, list(part)), tuple(sorted(part)) in expected)
        self.assertGreater(several, 5)

    def test_limits(self):
        six = example_diary([(0, 0, ["a"], [])] * 5 + [(0, 0, ["b"], [])])
        self.same(thin_wrong(six), [(6,)])
        for number in (7, 8):
            diary = example_diary([(0, 0, ["a"], [])] * number)
            self.refuses(TooLarge("sightings", 6), thin_wrong, diary)
            self.refuses(TooLarge("sightings", 6), least_wrong, diary)
            for most in (-1, 4, True, False, 10 ** 59):
                self.refuses(BadNumber(most), thin_wrong, diary, most=most)
                self.refuses(BadNumber(most), least_wrong, diary, most=most)
        # Neither is refused for want of a wrong set before it is for its size.
        none = Diary(plain_web(2, 1), [], [(1, 1, [], [])] * 7)
        self.refuses(TooLarge("sightings", 6), least_wrong, none, most=0)

    def test_by_keyword_alone(self):
        for call in (thin_wrong, least_wrong):
            with self.assertRaises(TypeError):
                call(example_diary(), 2)

    def test_a_list_that_is_returned_is_new(self):
        diary = wrong_diary()
        for call in (thin_wrong, least_wrong):
            before = kinds(call(diary))
            call(diary).clear()
            self.assertEqual(kinds(call(diary)), before)


class IsThinWrong(Case):
    def test_diaries_with_7_and_8_sightings(self):
        for number in (7, 8):
            rows = [(0, 0, ["a"], [])] * number
            fitting = example_diary(rows)
            self.assertIs(is_thin_wrong(fitting, []), True)
            self.assertIs(is_thin_wrong(fitting, [7]), False)
            wrong = example_diary([(0, 0, ["a"], [])] * (number - 5) + [(0, 0, ["b"], [])] * 5)
            places = list(range(number - 4, number + 1))
            self.assertIs(is_thin_wrong(wrong, places), True)
            self.assertIs(is_thin_wrong(wrong, tuple(places[::-1])), True)
            self.assertIs(is_thin_wrong(wrong, places[1:]), False)
            self.assertIs(is_thin_wrong(wrong, [1] + places), False)
            self.assertIs(is_thin_wrong(wrong, list(range(1, number + 1))), False)

    def test_moments_out_of_range_and_bools(self):
        diary = example_diary([(0, 0, ["b"], []), (0, 0, [], [])])
        self.assertIs(is_thin_wrong(diary, [1]), True)
        for place in (0, 3, -1, True, False, 10 ** 59):
            self.assertIs(is_thin_wrong(diary, [place]), False)
            self.assertIs(is_thin_wrong(diary, [1, place]), False)
        self.assertIs(is_thin_wrong(example_diary([]), [1]), False)
        self.assertIs(is_thin_wrong(diary, [1, 1]), False)
        self.assertIs(is_thin_wrong(example_diary([]), []), True)

    def test_the_empty_set(self):
        self.assertIs(is_thin_wrong(example_diary(), ()), True)
        self.assertIs(is_thin_wrong(wrong_diary(), ()), False)


class Lowered(Case):
    def test_ordinary(self):
        web = example_web()
        self.assertTrue(lowered(web, []) == web)
        found = lowered(web, [("d", 2), ["a", 1]])
        self.assertTrue(found == Web([("a", 0), ("b", 1), ("c", 2), ("d", 1)], web.watches))
        self.assertTrue(lowered(web, (("d", 3),)) == with_need(web, "d", 0))
        self.assertTrue(web == example_web())

    def test_refused(self):
        web = with_need(example_web(), "b", 0)
        self.refuses(UnknownFolk("x"), lowered, web, [("a", 1), ("x", 0)])
        for name, need in web.folk:
            for amount in (0, -1, need + 1, 10000, True, False, 10 ** 59):
                self.refuses(BadNumber(amount), lowered, web, [(name, amount)])
        self.refuses(Repeated("d"), lowered, web, [("d", 1), ("c", 1), ("d", 3)])

    def test_by_the_web_passed(self):
        # The second amount would be too much for what the first one left; the name is what is wrong.
        self.refuses(Repeated("d"), lowered, example_web(), [("d", 2), ("d", 2)])

    def test_refused_for_several_reasons(self):
        web = example_web()
        self.refuses(BadNumber(4), lowered, web, [("d", 1), ("d", 4)])
        self.refuses(BadNumber(True), lowered, web, [("d", 1), ("d", True)])
        self.refuses(UnknownFolk("x"), lowered, web, [("x", 0), ("a", 9)])
        self.refuses(BadNumber(9), lowered, web, [("a", 9), ("x", 0)])
        self.refuses(Repeated("a"), lowered, web, [("a", 1), ("a", 1), ("x", 0)])

    def test_kinds(self):
        found = lowered(example_web(), Row([Row([Text("d"), Number(2)])]))
        self.same(found.folk, (("a", 1), ("b", 1), ("c", 2), ("d", 1)))


class Laid(Case):
    def test_ordinary(self):
        web = example_web()
        self.assertTrue(laid(web, []) == web)
        found = laid(web, [("c", "d", 3), ["d", "a", 1]])
        self.assertTrue(found == with_watch(with_watch(web, "c", "d", 5), "d", "a", 1))
        self.assertTrue(laid(web, [("d", "a", 9999)]) == with_watch(web, "d", "a", 9999))
        self.assertTrue(laid(web, [("c", "d", 9997)]) == with_watch(web, "c", "d", 9999))
        self.assertTrue(web == example_web())

    def test_refused(self):
        web = example_web()
        self.refuses(UnknownFolk("x"), laid, web, [("x", "y", 0)])
        self.refuses(UnknownFolk("y"), laid, web, [("a", "y", 0)])
        for amount in (0, -1, 10000, True, False, 10 ** 59):
            self.refuses(BadNumber(amount), laid, web, [("a", "b", amount)])
            self.refuses(BadNumber(amount), laid, web, [("a", "a", amount)])
        self.refuses(SelfWatch("a"), laid, web, [("a", "a", 1)])
        self.refuses(SelfWatch("a"), laid, web, [("a", "a", 9999)])
        self.refuses(BadNumber(9998), laid, web, [("c", "d", 9998)])
        self.refuses(BadNumber(9999), laid, web, [("c", "d", 9999)])
        self.refuses(Repeated(("d", "a")), laid, web, [("d", "a", 1), ("a", "d", 1), ("d", "a", 1)])

    def test_refused_for_several_reasons(self):
        web = example_web()
        self.refuses(UnknownFolk("x"), laid, web, [("x", "x", 0), ("a", "a", 1)])
        self.refuses(BadNumber(9998), laid, web, [("c", "d", 1), ("c", "d", 9998)])
        self.refuses(BadNumber(0), laid, web, [("c", "d", 1), ("c", "d", 0)])
        # By the web passed, 9997 is not too much for c and d.
        self.refuses(Repeated(("c", "d")), laid, web, [("c", "d", 9997), ("c", "d", 9997)])
        self.refuses(SelfWatch("a"), laid, web, [("a", "a", 1), ("x", "y", 0)])

    def test_the_number_of_watches(self):
        full = full_web(22)
        missing = [
            (one, other, 2) for one in full.names for other in full.names
            if one != other and full.weight(one, other) == 0
        ]
        self.same(len(missing), 8)
        self.same(len(laid(full, missing[:2]).watches), 24)
        self.refuses(BadCount("watches", 25), laid, full, missing[:3])
        self.refuses(BadCount("watches", 30), laid, full, missing)
        # A watch that grows is no further one.
        grown = [(one, other, 1) for one, other, _ in full.watches]
        self.same(len(laid(full, grown + missing[:2]).watches), 24)
        self.refuses(BadCount("watches", 25), laid, full, missing[:3] + grown)
        # All changes are looked at before the number of watches.
        self.refuses(BadNumber(0), laid, full, missing + [("m", "c", 0)])
        self.refuses(Repeated(missing[0][:2]), laid, full, missing + missing[:1])


class WithoutWatches(Case):
    def test_ordinary(self):
        web = example_web()
        self.assertTrue(without_watches(web, []) == web)
        found = without_watches(web, [("c", "d"), ["b", "a"]])
        self.assertTrue(found == Web(web.folk, [("a", "b", 1), ("a", "c", 1), ("b", "c", 1)]))
        every = [row[:2] for row in web.watches]
        self.assertTrue(without_watches(web, every[::-1]) == Web(web.folk))
        self.assertTrue(web == example_web())

    def test_refused(self):
        web = example_web()
        self.refuses(UnknownFolk("x"), without_watches, web, [("x", "y")])
        self.refuses(UnknownFolk("y"), without_watches, web, [("a", "y")])
        self.refuses(NoWatch("d", "c"), without_watches, web, [("c", "d"), ("d", "c")])
        self.refuses(NoWatch("a", "a"), without_watches, web, [("a", "a")])
        self.refuses(Repeated(("c", "d")), without_watches, web, [("c", "d"), ("a", "b"), ["c", "d"]])

    def test_refused_for_several_reasons(self):
        web = example_web()
        self.refuses(UnknownFolk("x"), without_watches, web, [("x", "x"), ("a", "a")])
        self.refuses(NoWatch("a", "a"), without_watches, web, [("a", "a"), ("x", "a")])
        # Whether there is a watch is asked of the web passed, not of what is left.
        self.refuses(Repeated(("c", "d")), without_watches, web, [("c", "d"), ("c", "d"), ("x", "a")])
        self.refuses(NoWatch("d", "c"), without_watches, web, [("d", "c"), ("d", "c")])


def one_class_by_search(web, awake, target):
    """True if the target comes of the world, by a search over deeds."""
    return in_folk_order(web, target) in distances_from(web, awake)


def lowerings_by_search(web, awake, target, most):
    """The least lowerings, found among all rows of amounts; None if there are none up to the total."""
    for total in range(most + 1):
        found = []
        for row in itertools.product(range(total + 1), repeat=len(web.names)):
            if sum(row) == total and all(amount <= need for amount, (_, need) in zip(row, web.folk)):
                light = Web([(name, need - amount) for amount, (name, need) in zip(row, web.folk)], web.watches)
                if one_class_by_search(light, awake, target):
                    found.append(tuple((name, amount) for amount, name in zip(row, web.names) if amount))
        if found:
            return found
    return None


def layings_by_search(web, awake, target, most):
    """The least layings, found among all rows of amounts; None if there are none up to the total."""
    pairs = [(one, other) for other in web.names for one in web.names if one != other]
    for total in range(most + 1):
        found = []
        for picked in itertools.combinations_with_replacement(range(len(pairs)), total):
            row = [picked.count(at) for at in range(len(pairs))]
            weights = {pair: web.weight(*pair) + amount for pair, amount in zip(pairs, row)}
            if max(weights.values(), default=0) <= 9999:
                heavy = Web(web.folk, [(*pair, weight) for pair, weight in weights.items() if weight])
                if one_class_by_search(heavy, awake, target):
                    found.append((row, tuple((*pair, amount) for pair, amount in zip(pairs, row) if amount)))
        if found:
            return [changes for _, changes in sorted(found)]
    return None


def cuts_by_search(web, awake, target, most):
    """The least cuts, found among all sets of watches; None if there are none up to the number."""
    for number in range(most + 1):
        found = []
        for places in itertools.combinations(range(len(web.watches)), number):
            left = [row for at, row in enumerate(web.watches) if at not in places]
            if not one_class_by_search(Web(web.folk, left), awake, target):
                found.append(tuple(web.watches[at][:2] for at in places))
        if found:
            return found
    return None


def some_questions(step):
    """Some small webs, each with two worlds."""
    found = []
    for at, web in enumerate(small_webs()):
        worlds = all_worlds(web)
        for seed in range(0, len(worlds), step):
            found.append((web, worlds[seed], worlds[(seed * 5 + at * 3 + 1) % len(worlds)]))
    return found


class Lowerings(Case):
    def test_ordinary(self):
        web = example_web()
        self.same(least_lowerings(web, ["a"], ["a", "d"]), [(("d", 1),)])
        self.same(least_lowerings(web, [], ["a"]), [(("b", 1),), (("a", 1),)])
        self.same(least_lowerings(web, [], ["c"]), lowerings_by_search(web, (), ("c",), 3))

    def test_worlds_that_are_of_one_class_already(self):
        for most in range(5):
            self.same(least_lowerings(example_web(), ["a"], ["c", "b"], most=most), [()])
            self.same(least_lowerings(example_web(), ["d"], ["d"], most=most), [()])

    def test_no_repair(self):
        web = plain_web(2, 9)
        for most in range(5):
            self.refuses(NoRepair(most), least_lowerings, web, [], ["m"], most=most)
        self.refuses(NoRepair(3), least_lowerings, web, [], ["m"])
        self.refuses(NoRepair(3), least_lowerings, plain_web(2, 4), [], ["m"])
        self.same(least_lowerings(plain_web(2, 4), [], ["m"], most=4), [(("m", 4),)])

    def test_the_order_of_the_answers(self):
        # Any one of the three is enough; the last in folk order has the least row of amounts.
        web = Web([("z", 1), ("a", 1), ("m", 1)], [
            ("z", "a", 1), ("a", "m", 1), ("m", "z", 1), ("a", "z", 1), ("m", "a", 1), ("z", "m", 1),
        ])
        self.same(least_lowerings(web, [], ["a"]), [(("m", 1),), (("a", 1),), (("z", 1),)])
        web = Web([("z", 2), ("a", 3)], [("z", "a", 2), ("a", "z", 1)])
        self.same(least_lowerings(web, [], ["z", "a"]), lowerings_by_search(web, (), ("z", "a"), 3))

    def test_against_a_search(self):
        count = 0
        for web, awake, target in some_questions(3):
            for most in (1, 3, 4):
                expected = lowerings_by_search(web, awake, target, most)
                if expected is None:
                    self.refuses(NoRepair(most), least_lowerings, web, awake, target, most=most)
                else:
                    self.same(least_lowerings(web, awake, target, most=most), expected)
                    count += len(expected) > 1
                    for changes in expected:
                        self.assertIs(is_lowering(web, awake, target, changes[::-1]), True)
        self.assertGreater(count, 10)

    def test_refused(self):
        web = example_web()
        self.refuses(UnknownFolk("x"), least_lowerings, web, ["x"], ["y"], most=9)
        self.refuses(Repeated("a"), least_lowerings, web, ["a", "a"], ["y"])
        self.refuses(UnknownFolk("y"), least_lowerings, web, ["a"], ["y"], most=9)
        self.refuses(Repeated("b"), least_lowerings, web, ["a"], ["b", "b"])
        for most in (-1, 5, True, False, 10 ** 59):
            self.refuses(BadNumber(most), least_lowerings, plain_web(7), [], [], most=most)
        with self.assertRaises(TypeError):
            least_lowerings(web, [], [], 3)

    def test_limits(self):
        self.same(least_lowerings(plain_web(6, 1), [], ["m"]), [(("m", 1),)])
        for number in (7, 10):
            self.refuses(TooLarge("folk", 6), least_lowerings, plain_web(number, 1), [], [])
            self.refuses(TooLarge("folk", 6), least_lowerings, plain_web(number, 9), [], ["m"])
            self.refuses(UnknownFolk("q"), least_lowerings, plain_web(number), [], ["q"])


class IsLowering(Case):
    def test_ordinary(self):
        web = example_web()
        self.assertIs(is_lowering(web, ["a"], ["a", "d"], [("d", 1)]), True)
        self.assertIs(is_lowering(web, ["a"], ["a", "d"], (["d", 3], ("a", 1))), True)
        self.assertIs(is_lowering(web, ["a"], ["a", "d"], []), False)
        self.assertIs(is_lowering(web, ["a"], ["a", "d"], [("c", 1)]), False)
        self.assertIs(is_lowering(web, ["a"], ["b"], []), True)

    def test_wrong_papers(self):
        web = with_need(example_web(), "b", 0)
        for paper in (
            [("x", 1)], [("", 1)], [("a", 0)], [("a", 2)], [("a", True)], [("d", -1)], [("b", 1)], [("b", False)],
            [("a", 1), ("a", 1)], [("d", 1), ("x", 1)], [("d", 1), ("d", 1)], [("d", 10 ** 59)],
        ):
            self.assertIs(is_lowering(web, ["a"], ["b"], paper), False)
            self.assertIs(is_lowering(web, ["a"], ["a"], [("c", 1)] + paper), False)

    def test_webs_of_any_size(self):
        self.assertIs(is_lowering(plain_web(10, 5), [], ["m"], [("m", 5)]), True)
        self.assertIs(is_lowering(plain_web(10, 5), [], ["m"], [("m", 4)]), False)
        self.assertIs(is_lowering(plain_web(10, 9999), [], ["m"], [("m", 9999)]), True)

    def test_refused(self):
        web = example_web()
        self.refuses(UnknownFolk("x"), is_lowering, web, ["x"], ["y"], [("q", 0)])
        self.refuses(Repeated("a"), is_lowering, web, ["a", "a"], ["y"], [("q", 0)])
        self.refuses(UnknownFolk("y"), is_lowering, web, ["a"], ["y"], [("q", 0)])
        self.refuses(Repeated("b"), is_lowering, web, ["a"], ["b", "b"], [])

    def test_lowering_leaves_one_class_one_class(self):
        for web, awake, target in some_questions(4):
            if one_class_by_search(web, awake, target):
                for name, need in web.folk:
                    if need > 0:
                        self.assertIs(is_lowering(web, awake, target, [(name, need)]), True)


class Layings(Case):
    def test_ordinary(self):
        web = example_web()
        self.same(least_layings(web, ["a"], ["a", "d"]), layings_by_search(web, ("a",), ("a", "d"), 2))
        self.same(least_layings(web, ["a"], ["a", "d"])[0], (("c", "d", 1),))
        self.same(least_layings(Web([("m", 1), ("c", 0)]), [], ["m"]), [(("c", "m", 1),)])

    def test_worlds_that_are_of_one_class_already(self):
        for most in range(3):
            self.same(least_layings(example_web(), ["a"], ["b"], most=most), [()])

    def test_no_repair(self):
        web = plain_web(3, 3)
        for most in range(3):
            self.refuses(NoRepair(most), least_layings, web, [], ["m"], most=most)
        self.refuses(NoRepair(2), least_layings, web, ["m"], [])
        self.refuses(NoRepair(1), least_layings, Web([("m", 2), ("c", 0)]), [], ["m"], most=1)
        self.same(least_layings(Web([("m", 2), ("c", 0)]), [], ["m"]), [(("c", "m", 2),)])

    def test_no_weight_beyond_9999(self):
        # Weights can no longer grow for the one watch, and one more from z would do.
        web = Web([("m", 9999), ("c", 0), ("z", 0)], [("c", "m", 9998)])
        self.same(least_layings(web, [], ["m"]), [(("z", "m", 1),), (("c", "m", 1),)])
        full = Web([("m", 9999), ("c", 1), ("z", 0)], [("c", "m", 9999)])
        self.same(least_layings(full, [], ["m"]), [(("z", "c", 1),)])
        # One alone cannot watch with 10000, whatever is laid.
        two = Web([("m", 9999), ("c", 9)], [("c", "m", 9999), ("m", "c", 9)])
        self.refuses(NoRepair(2), least_layings, two, [], ["m"])

    def test_the_order_of_the_answers(self):
        web = Web([("z", 1), ("a", 1), ("m", 0)])
        self.same(least_layings(web, [], ["z", "a"]), [
            (("m", "z", 1), ("m", "a", 1)), (("m", "z", 1), ("z", "a", 1)), (("a", "z", 1), ("m", "a", 1)),
        ])

    def test_against_a_search(self):
        count = 0
        for web, awake, target in some_questions(5):
            for most in (1, 2):
                expected = layings_by_search(web, awake, target, most)
                if expected is None:
                    self.refuses(NoRepair(most), least_layings, web, awake, target, most=most)
                else:
                    self.same(least_layings(web, awake, target, most=most), expected)
                    count += len(expected) > 1
                    for changes in expected:
                        self.assertTrue(one_class_by_search(laid(web, changes), awake, target))
        self.assertGreater(count, 10)

    def test_refused(self):
        web = example_web()
        self.refuses(UnknownFolk("x"), least_layings, web, ["x"], ["y"], most=9)
        self.refuses(UnknownFolk("y"), least_layings, web, ["a"], ["y"], most=9)
        self.refuses(Repeated("b"), least_layings, web, ["a"], ["b", "b"])
        for most in (-1, 3, True, False, 10 ** 59):
            self.refuses(BadNumber(most), least_layings, plain_web(6), [], [], most=most)
        with self.assertRaises(TypeError):
            least_layings(web, [], [], 2)

    def test_limits(self):
        self.same(least_layings(plain_web(5), [], ["m"]), [()])
        self.same(len(least_layings(with_need(plain_web(5), "m", 1), [], ["m"])), 4)
        for number in (6, 10):
            self.refuses(TooLarge("folk", 5), least_layings, plain_web(number), [], [])
            self.refuses(TooLarge("folk", 5), least_layings, plain_web(number, 9), [], ["m"])


class Cuts(Case):
    def test_ordinary(self):
        web = example_web()
        self.same(least_cuts(web, ["a"], ["b"]), [(("b", "a"),), (("a", "b"),)])
        self.same(least_cuts(web, ["a", "b"], ["c", "a", "b"]), [(("a", "c"),), (("b", "c"),)])

    def test_two_watches(self):
        # Either of two wakes m.
        web = Web([("m", 1), ("c", 0), ("z", 0)], [("c", "m", 1), ("z", "m", 1)])
        self.same(least_cuts(web, [], ["m"]), [(("c", "m"), ("z", "m"))])
        self.refuses(NoRepair(1), least_cuts, web, [], ["m"], most=1)
        self.refuses(NoRepair(0), least_cuts, web, [], ["m"], most=0)

    def test_worlds_of_different_classes_already(self):
        for most in range(3):
            self.same(least_cuts(example_web(), ["a"], ["d"], most=most), [()])

    def test_no_repair(self):
        for most in range(3):
            self.refuses(NoRepair(most), least_cuts, plain_web(2), [], ["m"], most=most)
            self.refuses(NoRepair(most), least_cuts, example_web(), ["a"], ["a"], most=most)
        web = Web([("m", 1), ("c", 0), ("z", 0), ("k", 0)], [(name, "m", 1) for name in "czk"])
        self.refuses(NoRepair(2), least_cuts, web, [], ["m"])

    def test_against_a_search(self):
        several = 0
        for web, awake, target in some_questions(3):
            if len(web.watches) <= 12:
                for most in range(3):
                    expected = cuts_by_search(web, awake, target, most)
                    if expected is None:
                        self.refuses(NoRepair(most), least_cuts, web, awake, target, most=most)
                    else:
                        self.same(least_cuts(web, awake, target, most=most), expected)
                        several += len(expected) > 1
        self.assertGreater(several, 10)

    def test_refused(self):
        web = example_web()
        self.refuses(UnknownFolk("x"), least_cuts, web, ["x"], ["y"], most=9)
        self.refuses(UnknownFolk("y"), least_cuts, web, ["a"], ["y"], most=9)
        self.refuses(Repeated("b"), least_cuts, web, ["a"], ["b", "b"])
        for most in (-1, 3, True, False, 10 ** 59):
            self.refuses(BadNumber(most), least_cuts, full_web(13), [], [], most=most)
        with self.assertRaises(TypeError):
            least_cuts(web, [], [], 2)

    def test_limits(self):
        self.refuses(NoRepair(2), least_cuts, full_web(12), [], [])
        for number in (13, 24):
            self.refuses(TooLarge("watches", 12), least_cuts, full_web(number), [], [])
            self.refuses(TooLarge("watches", 12), least_cuts, full_web(number), [], ["m"])
            self.refuses(UnknownFolk("q"), least_cuts, full_web(number), [], ["q"])
        # Ten folk are no matter.
        self.refuses(NoRepair(2), least_cuts, plain_web(10), [], ["m"])

    def test_striking_leaves_unlike_classes_unlike(self):
        for web, awake, target in some_questions(5):
            if not one_class_by_search(web, awake, target):
                for part in subsets([row[:2] for row in web.watches])[:40]:
                    self.assertFalse(one_class_by_search(without_watches(web, part), awake, target))


class Copies(Case):
    def test_nothing_that_is_passed_is_changed(self):
        web = example_web()
        for call, given in (
            (lowered, [["d", 2], ["a", 1]]), (laid, [["c", "d", 3]]), (without_watches, [["c", "d"], ["b", "a"]]),
        ):
            kept = copy.deepcopy(given)
            first = call(web, given)
            self.assertEqual(kinds(given), kinds(kept))
            given[0][0] = "q"
            given.clear()
            self.assertTrue(web == example_web())
            self.assertTrue(first == call(web, kept))

    def test_lists_that_are_returned_are_new(self):
        web = example_web()
        for call in (least_lowerings, least_layings, least_cuts):
            target = ["b"] if call is least_cuts else ["a", "d"]
            before = kinds(call(web, ["a"], target))
            call(web, ["a"], target).clear()
            self.assertEqual(kinds(call(web, ["a"], target)), before)

    def test_the_diary_stays_as_it_was(self):
        diary = Diary(example_web(), ["a"], some_sightings(example_web(), 4))
        before = diary.sightings
        thin_wrong(diary)
        blanked(diary, [1])
        self.same(diary.sightings, before)
