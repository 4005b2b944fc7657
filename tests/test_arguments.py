"""Points 4 to 7 for all functions from nests on: names arguments, their order, copies, papers behind them."""

import copy

from drowsefolk import (
    audit, book, classes, diaries, fewest, gluing, lengths, nests, pictures, pieces, reach, repairs, running, telling,
)
from drowsefolk.errors import DrowseError, Repeated, UnknownFolk
from drowsefolk.orders import Order
from tests.helpers import Case, example_web, kinds, plain_web

EXAMPLE = example_web()
NINE = plain_web(9)
HISTORY = ("history", ["b"])
ROWS = [(["a"], 0), (["b"], 1)]

# Each call: the function, the web, the other arguments, and which of these are names arguments (counted from 0).
# Where more than one kind of call is told for a function, the last ones would be refused later for another reason.
CALLS = [
    (nests.outside_weight, EXAMPLE, (["b"], "a"), (0,)),
    (nests.is_nest_of, EXAMPLE, (["b"], ["d"]), (0,)),
    (nests.greatest_nest, EXAMPLE, (["b"],), (0,)),
    (nests.avoids, EXAMPLE, (["b"], ["d", "a"]), (0, 1)),
    (nests.nest_union, EXAMPLE, (["d"], ["b", "a"]), (0, 1)),
    (nests.nest_union, EXAMPLE, (["a"], ["b"]), (0, 1)),
    (nests.closure_paper, EXAMPLE, (["b"],), (0,)),
    (nests.is_closure_paper, EXAMPLE, (["b"], ["c", "b", "a"], (["a", "c"], ["d"])), (0, 1)),
    (nests.is_closure_paper, EXAMPLE, (["b"], ["c", "b", "a"], ()), (0, 1)),
    (reach.same_class, EXAMPLE, (["b"], ["a"]), (0, 1)),
    (reach.path, EXAMPLE, (["b"], ["a"]), (0, 1)),
    (reach.path, EXAMPLE, (["b"], ["d"]), (0, 1)),
    (reach.parting_nest, EXAMPLE, (["b"], ["d"]), (0, 1)),
    (reach.is_parting_nest, EXAMPLE, (["b"], ["d"], ["d"]), (0, 1)),
    (reach.answer, EXAMPLE, (["b"], ["a"]), (0, 1)),
    (reach.is_answer, EXAMPLE, (["b"], ["a"], HISTORY), (0, 1)),
    (reach.guarded_class, EXAMPLE, (["b"], ["a"], ["d", "c"]), (0, 1, 2)),
    (reach.guarded_class, EXAMPLE, (["b"], ["a"], ["b", "c"]), (0, 1, 2)),
    (reach.guarded_path, EXAMPLE, (["b"], ["a"], ["d", "c"]), (0, 1, 2)),
    (reach.guarded_path, EXAMPLE, (["b"], ["c"], ["d"]), (0, 1, 2)),
    (reach.is_guard_nest, EXAMPLE, (["b"], ["d"]), (0,)),
    (reach.guard_answer, EXAMPLE, (["b"], ["a"], ["d", "c"]), (0, 1, 2)),
    (reach.is_guard_answer, EXAMPLE, (["b"], ["a"], ["d", "c"], HISTORY), (0, 1, 2)),
    (reach.is_guard_answer, EXAMPLE, (["b"], ["a"], ["d", "a"], ()), (0, 1, 2)),
    (reach.needed, EXAMPLE, (["b"], ["a"]), (0, 1)),
    (reach.needed, EXAMPLE, (["b"], ["d"]), (0, 1)),
    (reach.must_turn, EXAMPLE, (["b"], ["a"]), (0, 1)),
    (reach.must_turn, EXAMPLE, (["b"], ["d"]), (0, 1)),
    (fewest.helpers, EXAMPLE, (["b"], ["c", "b"]), (0, 1)),
    (fewest.helpers, EXAMPLE, (["b"], ["d"]), (0, 1)),
    (fewest.least_helpers, EXAMPLE, (["b"], ["c", "b"]), (0, 1)),
    (fewest.least_helpers, EXAMPLE, (["b"], ["d"]), (0, 1)),
    (fewest.fewest, EXAMPLE, (["b"], ["c", "b"]), (0, 1)),
    (fewest.fewest, EXAMPLE, (["b"], ["d"]), (0, 1)),
    (fewest.fewest_history, EXAMPLE, (["b"], ["c", "b"]), (0, 1)),
    (fewest.fewest_history, EXAMPLE, (["b"], ["d"]), (0, 1)),
    (fewest.is_helpers, EXAMPLE, (["b"], ["c", "b"], ["a"]), (0, 1)),
    (fewest.distance_table, EXAMPLE, (["b"],), (0,)),
    (fewest.distance_table, NINE, (["b"],), (0,)),
    (fewest.is_bound_table, EXAMPLE, (["b"], ["c"], ROWS, 3), (0, 1)),
    (fewest.is_bound_table, EXAMPLE, (["b"], ["c"], ROWS, True), (0, 1)),
    (lengths.can_last, EXAMPLE, (["b"], ["a"], 4), (0, 1)),
    (lengths.can_last, EXAMPLE, (["b"], ["a"], True), (0, 1)),
    (lengths.history_of_length, EXAMPLE, (["b"], ["a"], 4), (0, 1)),
    (lengths.history_of_length, EXAMPLE, (["b"], ["a"], 3), (0, 1)),
    (lengths.history_of_length, EXAMPLE, (["b"], ["a"], 201), (0, 1)),
    (lengths.count_fewest, EXAMPLE, (["b"], ["a"]), (0, 1)),
    (lengths.count_fewest, NINE, (["b"], ["a"]), (0, 1)),
    (lengths.fewest_histories, EXAMPLE, (["b"], ["a"]), (0, 1)),
    (lengths.fewest_histories, NINE, (["b"], ["a"]), (0, 1)),
    (lengths.count_lasting, EXAMPLE, (["b"], ["a"], 4), (0, 1)),
    (lengths.count_lasting, NINE, (["b"], ["a"], 13), (0, 1)),
    (lengths.farthest, EXAMPLE, (["b"],), (0,)),
    (lengths.farthest, NINE, (["b"],), (0,)),
    (lengths.diameter, EXAMPLE, (["b"],), (0,)),
    (lengths.diameter, NINE, (["b"],), (0,)),
    (pictures.is_fit_paper, EXAMPLE, (["b"], ["a"], ["d"], ("history", ["a"])), (0, 1, 2)),
    (pictures.is_fit_paper, EXAMPLE, (["b"], ["a"], ["a"], ()), (0, 1, 2)),
    (classes.member_at, EXAMPLE, (["b"], 3), (0,)),
    (classes.member_at, NINE, (["b"], True), (0,)),
    (classes.class_place, EXAMPLE, (["b"],), (0,)),
    (classes.class_place, NINE, (["b"],), (0,)),
    (classes.class_join, EXAMPLE, (["b"], ["d"]), (0, 1)),
    (classes.class_meet, EXAMPLE, (["b"], ["d"]), (0, 1)),
    (classes.is_thin, EXAMPLE, (["b"],), (0,)),
    (classes.thinned, EXAMPLE, (["b", "a"],), (0,)),
    (classes.thin_paper, EXAMPLE, (["d", "b"],), (0,)),
    (classes.thin_paper, EXAMPLE, (["a", "b"],), (0,)),
    (classes.is_thin_paper, EXAMPLE, (["b"], [("b", ["a", "b"])]), (0,)),
    (pieces.Piece, EXAMPLE, (["b"],), (0,)),
    (gluing.neighbours, EXAMPLE, (["b", "c"],), (0,)),
    (gluing.split_web, EXAMPLE, (["d"], ["c"]), (0, 1)),
    (gluing.split_web, EXAMPLE, (["a"], ["c", "a"]), (0, 1)),
    (telling.shrunk_web, EXAMPLE, (["d"], ["c"]), (0, 1)),
    (telling.shrunk_web, EXAMPLE, (["a"], []), (0, 1)),
    (diaries.Diary, EXAMPLE, (["b"], [(1, None, ["a"], ["b", "d"])]), (0,)),
    (diaries.Diary, NINE, (["b"], [(1, None, ["a"], ["b", "d"])]), (0,)),
    (diaries.Diary, NINE, (["b"], [(1, 0, ["q"], ["b", "b"])] * 9), (0,)),
    (repairs.least_lowerings, EXAMPLE, (["b"], ["b", "d"]), (0, 1)),
    (repairs.least_lowerings, NINE, (["b"], ["b", "d"]), (0, 1)),
    (repairs.is_lowering, EXAMPLE, (["b"], ["b", "d"], [("d", 1)]), (0, 1)),
    (repairs.is_lowering, EXAMPLE, (["b"], ["b", "d"], [("x", True)]), (0, 1)),
    (repairs.least_layings, EXAMPLE, (["b"], ["b", "d"]), (0, 1)),
    (repairs.least_layings, NINE, (["b"], ["b", "d"]), (0, 1)),
    (repairs.least_cuts, EXAMPLE, (["b"], ["a", "c"]), (0, 1)),
    (repairs.least_cuts, NINE, (["b"], ["b"]), (0, 1)),
    (running.run_order, EXAMPLE, (["b", "c"], Order("each\ntry *\nend")), (0,)),
    (running.run_order, EXAMPLE, (["b", "c"], Order("wake q")), (0,)),
    (running.order_history, EXAMPLE, (["b", "c"], Order("each\ntry *\nend")), (0,)),
    (running.order_history, EXAMPLE, (["b", "c"], Order("wake q")), (0,)),
    (book.Book, EXAMPLE, (["b", "c"],), (0,)),
    (audit.audit, EXAMPLE, (["b", "c"], [("turn", "a"), ("turn", "q")]), (0,)),
    (audit.replay_book, EXAMPLE, (["b", "c"], [("turn", "a")]), (0,)),
    (audit.replay_book, EXAMPLE, (["b", "c"], [("turn", "a"), ("turn", "q")]), (0,)),
]
for function in (
    pictures.fits, pictures.greatest_fit, pictures.fit_paper, pictures.sure, pictures.list_fits, pictures.count_fits,
    pictures.least_fits,
):
    CALLS.append((function, EXAMPLE, (["b"], ["a"], ["d"]), (0, 1, 2)))
    CALLS.append((function, EXAMPLE, (["b"], ["d"], ["d", "b"]), (0, 1, 2)))
for function in (classes.members, classes.class_size, classes.rank, classes.least_member, classes.thin_members):
    CALLS.append((function, EXAMPLE, (["b"],), (0,)))
    CALLS.append((function, NINE, (["b"],), (0,)))

# Names lists that are refused, with the error told: the first entry at fault counts.
WRONG = (
    (["a", "q"], UnknownFolk("q")), (["b", "a", "b"], Repeated("b")), (["a", "a", "q"], Repeated("a")),
    (["q", "a", "a"], UnknownFolk("q")), (["a", ""], UnknownFolk("")), (("q", "q"), UnknownFolk("q")),
)


def changed(given, place, value):
    """The arguments with another value at the place."""
    return given[:place] + (value,) + given[place + 1:]


def with_tuples(value):
    """The value with a tuple for each list, and the reverse; papers that are told as tuples become lists."""
    if isinstance(value, (list, tuple)):
        other = tuple if isinstance(value, list) else list
        return other(with_tuples(part) for part in value)
    return value


def outcome(call, web, given):
    """What the call returns, or the error it raises with its attributes, told so that it can be compared."""
    try:
        value = call(web, *given)
    except DrowseError as error:
        return (type(error), sorted((key, kinds(part)) for key, part in vars(error).items()))
    if hasattr(value, "deeds"):
        return ("history", value.first_world, value.deeds)
    if hasattr(value, "border"):
        return ("piece", value.border, value.awake)
    return kinds(value)


class Names(Case):
    def test_each_names_argument_by_itself(self):
        for call, web, given, places in CALLS:
            for place in places:
                for names, error in WRONG:
                    with self.subTest(call=call.__name__, place=place, names=names):
                        self.refuses(error, call, web, *changed(given, place, names))

    def test_the_first_argument_goes_before_the_next(self):
        for call, web, given, places in CALLS:
            for place in places:
                for later in places:
                    if later > place:
                        for names, error in WRONG:
                            wrong = changed(changed(given, place, names), later, ["other", "a", "a"])
                            with self.subTest(call=call.__name__, place=place, later=later):
                                self.refuses(error, call, web, *wrong)

    def test_lists_and_tuples(self):
        for call, web, given, _ in CALLS:
            with self.subTest(call=call.__name__):
                turned = tuple(with_tuples(part) for part in given)
                self.assertEqual(outcome(call, web, turned), outcome(call, web, given))

    def test_the_order_of_the_names_does_not_count(self):
        for call, web, given, places in CALLS:
            for place in places:
                with self.subTest(call=call.__name__, place=place):
                    turned = changed(given, place, given[place][::-1])
                    self.assertEqual(outcome(call, web, turned), outcome(call, web, given))


class Copies(Case):
    def test_nothing_that_is_passed_is_changed(self):
        for call, web, given, _ in CALLS:
            with self.subTest(call=call.__name__):
                kept = copy.deepcopy(given)
                outcome(call, web, given)
                self.assertEqual(kinds(given), kinds(kept))
        self.assertTrue(EXAMPLE == example_web() and NINE == plain_web(9))

    def test_equal_answers_when_asked_again(self):
        first = [outcome(call, web, given) for call, web, given, _ in CALLS]
        again = [outcome(call, web, given) for call, web, given, _ in CALLS[::-1]]
        self.assertEqual(first, again[::-1])

    def test_every_list_is_new(self):
        for call, web, given, _ in CALLS:
            with self.subTest(call=call.__name__):
                before = outcome(call, web, given)
                try:
                    value = call(web, *given)
                except DrowseError:
                    continue
                for part in [value] + (list(value) if isinstance(value, tuple) else []):
                    if isinstance(part, list):
                        part.append("more")
                self.assertEqual(outcome(call, web, given), before)
