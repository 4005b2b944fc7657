"""Point 9: the errors."""

import inspect

from drowsefolk import errors
from drowsefolk.errors import DrowseError
from drowsefolk.names import is_number
from drowsefolk.webs import Web
from tests.helpers import Case, Number, Row, Text, kinds

ERRORS = {
    "BadName": ["name"], "BadNumber": ["value"], "BadCount": ["what", "number"], "Repeated": ["value"],
    "UnknownFolk": ["name"], "SelfWatch": ["name"], "BadText": ["line"], "TooLarge": ["what", "limit"],
    "TooLight": ["name", "missing", "place"], "OtherWeb": [], "NotJoined": ["last", "first"], "Outside": ["name"],
    "NotNest": ["nest"], "NotOneClass": ["nest"], "NoLength": ["length"], "Contrary": ["name"],
    "NoFit": ["avoided", "met"], "NotThin": ["name"], "OtherFolk": ["place"], "OtherNeed": ["name"],
    "OnBorder": ["name"], "NotBorder": ["name"], "NotInner": ["name"], "BorderWatch": ["watcher", "watched"],
    "Misfit": ["place"], "NoRepair": ["most"], "NoWatch": ["watcher", "watched"],
    "Crossing": ["watcher", "watched"], "BadClaim": ["word"], "BadPaper": [], "BadRow": ["place"],
    "Unfinished": ["word", "line"], "NothingToUndo": [], "StillAwake": ["name"],
}
TUPLES = ["nest", "avoided", "met", "last", "first"]
NUMBERS = ["number", "line", "limit", "missing", "place", "length", "most"]


def sample(attribute):
    """A value of the kind that the attribute has."""
    if attribute in TUPLES:
        return ("b" + attribute[0], "a")
    if attribute in NUMBERS:
        return 3 + len(attribute)
    if attribute == "value":
        return 77
    return attribute[:8]


class Errors(Case):
    def test_there_are_34_classes_beside_the_base(self):
        found = [
            name for name, value in vars(errors).items()
            if inspect.isclass(value) and value.__module__ == "drowsefolk.errors" and value is not DrowseError
        ]
        self.assertEqual(len(ERRORS), 34)
        self.assertEqual(sorted(found), sorted(ERRORS))

    def test_all_stand_directly_under_the_base(self):
        self.assertEqual(DrowseError.__bases__, (ValueError,))
        for name in ERRORS:
            self.assertEqual(getattr(errors, name).__bases__, (DrowseError,), name)

    def test_attributes_by_name_and_in_order(self):
        for name, attributes in ERRORS.items():
            values = [sample(attribute) for attribute in attributes]
            made = getattr(errors, name)(*values)
            self.assertEqual(list(vars(made)), attributes, name)
            for attribute, value in zip(attributes, values):
                self.assertEqual(kinds(getattr(made, attribute)), kinds(value), name)

    def test_each_takes_just_its_attributes(self):
        for name, attributes in ERRORS.items():
            values = [sample(attribute) for attribute in attributes]
            with self.assertRaises(TypeError, msg=name):
                getattr(errors, name)(*values, "more")
            if attributes:
                with self.assertRaises(TypeError, msg=name):
                    getattr(errors, name)(*values[1:])

    def test_each_can_be_raised_and_caught_as_the_base(self):
        for name, attributes in ERRORS.items():
            made = getattr(errors, name)(*[sample(attribute) for attribute in attributes])
            with self.assertRaises(DrowseError):
                raise made
            self.assertIsInstance(str(made), str)

    def test_a_list_is_kept_as_a_tuple_in_the_order_passed(self):
        for name, attributes in ERRORS.items():
            if not set(attributes) & set(TUPLES):
                continue
            lists = [["z", "b", attribute] for attribute in attributes]
            made = getattr(errors, name)(*lists)
            for passed in lists:
                passed.append("later")
                passed[0] = "changed"
            for attribute in attributes:
                self.same(getattr(made, attribute), ("z", "b", attribute))

    def test_an_empty_list_is_kept_as_an_empty_tuple(self):
        self.same(errors.NotNest([]).nest, ())
        self.same(errors.NotJoined([], ()).last, ())
        self.same(errors.NotJoined([], ()).first, ())
        self.same(errors.NoFit((), []).met, ())

    def test_repeated(self):
        self.same(errors.Repeated("a").value, "a")
        self.same(errors.Repeated(4).value, 4)
        self.same(errors.Repeated(("b", "a")).value, ("b", "a"))
        pair = ["b", "a"]
        made = errors.Repeated(pair)
        pair[0] = "c"
        pair.append("d")
        self.same(made.value, ("b", "a"))

    def test_a_value_is_held_as_it_was_passed(self):
        for value in (True, False, 0, -1, 10 ** 59, -(10 ** 59)):
            self.same(errors.BadNumber(value).value, value)
        for value in ("", "A b", "a\n", "x" * 60):
            self.same(errors.BadName(value).name, value)
            self.same(errors.UnknownFolk(value).name, value)

    def test_all_attributes_are_of_pythons_own_kinds(self):
        made_from = {str: Text, int: Number, tuple: Row}
        for name, attributes in ERRORS.items():
            values = [sample(attribute) for attribute in attributes]
            made = getattr(errors, name)(*[made_from[type(value)](value) for value in values])
            for attribute, value in zip(attributes, values):
                self.same(getattr(made, attribute), value)

    def test_attributes_are_of_pythons_own_kinds(self):
        self.same(errors.BadName(Text("A")).name, "A")
        self.same(errors.BadNumber(Number(-4)).value, -4)
        self.same(errors.NotNest(Row(["b", "a"])).nest, ("b", "a"))
        self.same(errors.Repeated(Row([Text("b"), "a"])).value, ("b", "a"))

    def test_two_errors_do_not_share_anything(self):
        one = errors.TooLight("a", 3, 1)
        other = errors.TooLight("b", 4, 2)
        self.assertEqual((one.name, one.missing, one.place), ("a", 3, 1))
        self.assertEqual((other.name, other.missing, other.place), ("b", 4, 2))

    def test_an_error_of_the_program_is_caught_as_a_value_error(self):
        with self.assertRaises(ValueError):
            Web([])
        self.assertIs(is_number(0, 0, 0), True)
