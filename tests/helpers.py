"""What the tests share: webs to ask about, and comparisons that look at kinds too."""

import itertools
import unittest

from drowsefolk.webs import Web

EXAMPLE_TEXT = (
    "folk a 1\nfolk b 1\nfolk c 2\nfolk d 3\n"
    "watch b a 1\nwatch a b 1\nwatch a c 1\nwatch b c 1\nwatch c d 2"
)


def example_web():
    """The web of the document's worked examples."""
    return Web(
        [("a", 1), ("b", 1), ("c", 2), ("d", 3)],
        [("b", "a", 1), ("a", "b", 1), ("a", "c", 1), ("b", "c", 1), ("c", "d", 2)],
    )


def names_for(number):
    """So many names, not in alphabetical order."""
    return ["m", "c", "x", "a", "z", "k", "b", "y", "d", "w", "e", "v"][:number]


def plain_web(number, need=0):
    """A web of so many folk without watches."""
    return Web([(name, need) for name in names_for(number)])


def full_web(watches=24):
    """A web of six folk with so many of its thirty possible watches."""
    names = names_for(6)
    pairs = [(one, other, 1) for one in names for other in names if one != other]
    return Web([(name, 2) for name in names], pairs[:watches])


# Groups of folk by the number of members in the class of the world in which only the first of them is awake:
# the needs, and the watches as (watcher, watched).
GROUPS = {
    2: ([0], []),
    3: ([1, 1], [(0, 1), (1, 0)]),
    5: ([2, 1, 1], [(0, 1), (0, 2), (1, 0), (2, 0)]),
    7: ([1, 1, 1], [(0, 1), (0, 2), (1, 0), (1, 2), (2, 0), (2, 1)]),
}


def grouped_web(sizes):
    """A web of groups that do not watch each other, and its world whose class has the product of the sizes."""
    folk, watches, awake = [], [], []
    names = iter(names_for(12))
    for size in sizes:
        needs, pairs = GROUPS[size]
        group = [next(names) for _ in needs]
        folk.extend(zip(group, needs))
        watches.extend([(group[one], group[other], 1) for one, other in pairs])
        awake.append(group[0])
    return Web(folk, watches), tuple(awake)


def small_webs():
    """Some webs of one to four folk, made by a rule without chance."""
    webs = [Web([("a", 0)]), Web([("a", 1)]), example_web()]
    for seed in range(1, 40):
        number = 2 + seed % 3
        names = names_for(number)
        state = seed * 7919
        folk = []
        for name in names:
            state = (state * 1103515245 + 12345) % 2147483648
            folk.append((name, state // 65536 % 4))
        watches = []
        for one, other in itertools.permutations(names, 2):
            state = (state * 1103515245 + 12345) % 2147483648
            weight = state // 65536 % 4
            if weight:
                watches.append((one, other, weight))
        webs.append(Web(folk, watches))
    return webs


def subsets(names):
    """All sets of these names, as tuples in the order of the names."""
    return [part for size in range(len(names) + 1) for part in itertools.combinations(names, size)]


def kinds(value):
    """The value with the kinds of all its parts, so that 1 and True, or a list and a tuple, are unlike."""
    if type(value) in (list, tuple):
        return (type(value), [kinds(part) for part in value])
    return (type(value), value)


class Text(str):
    """A kind made from Python's own text."""


class Number(int):
    """A kind made from Python's own integer."""


class Row(tuple):
    """A kind made from Python's own tuple."""


class Case(unittest.TestCase):
    """A test case that compares kinds and refusals."""

    maxDiff = None

    def same(self, value, expected):
        """The value equals the expected one in all parts, kinds included."""
        self.assertEqual(kinds(value), kinds(expected))

    def refuses(self, expected, call, *given, **named):
        """The call raises an error of just this class, with just these attributes and kinds."""
        with self.assertRaises(type(expected)) as caught:
            call(*given, **named)
        self.assertIs(type(caught.exception), type(expected))
        found = {key: kinds(value) for key, value in vars(caught.exception).items()}
        self.assertEqual(found, {key: kinds(value) for key, value in vars(expected).items()})
