"""What the tests share: things of every kind, small runs, and what point 2 asks of each function."""

import copy
import itertools
import unittest

ALL_LETTERS = "abcdefghijklmnopqrstuvwxyz"


def nested(depth):
    thing = []
    for level in range(depth):
        thing = [thing] if level % 2 else (thing,)
    return thing


# One or more of each kind that point 2 lists, but texts; none of them is a moment or a run.
OTHER_KINDS = [
    None, True, False, 0, 1, -1, 97, 10 ** 60 - 1,
    [], ["a"], ["a", "b"], [""], [[], ["a"]], ["a"] * 7000,
    (), ("a",), ("a", "b"), ("",), ((), ("a",)), (None, None), ("a",) * 7000,
    {}, {"a": "b"}, {0: [], 1: ["a"]}, {"stem": [], "ring": ["a"]},
    nested(99),
]


def show(run, many):
    """The first moments of a run, laid out plainly: the oracle for all that speaks of places."""
    stem, ring = run
    return (stem + ring * (many // len(ring) + 1))[:many]


def lists_of(moments, shortest, longest):
    return [list(some) for size in range(shortest, longest + 1)
            for some in itertools.product(moments, repeat=size)]


def small_runs(moments, longest_stem, longest_ring):
    return [(list(stem), list(ring)) for stem in lists_of(moments, 0, longest_stem)
            for ring in lists_of(moments, 1, longest_ring)]


def spoil(thing):
    if isinstance(thing, (list, tuple)):
        for part in thing:
            spoil(part)
    if isinstance(thing, list):
        thing.append("spoilt")
        thing[0] = "spoilt"


def shortened(text):
    return text if len(text) <= 300 else text[:140] + " .. " + text[-140:]


class Case(unittest.TestCase):
    def assert_same(self, told, expected):
        """As assertEqual, but True is not 1 here, and long lists that differ are not laid side by side,
        which takes very long for some."""
        if told != expected or repr(told) != repr(expected):
            self.fail("told: " + shortened(repr(told)) + "\nexpected: " + shortened(repr(expected)))

    def ask(self, function, *handed):
        """Asks, and sees to it that nothing handed in is changed."""
        before = repr(handed)
        told = function(*handed)
        self.assertTrue(repr(handed) == before, "what was handed in is changed")
        return told

    def assert_told(self, expected, function, *handed):
        self.assert_same(self.ask(function, *handed), expected)

    def assert_own(self, function, *handed):
        """What is told is the asker's own: spoiling it touches nothing else, now or later."""
        before = repr(handed)
        first = function(*handed)
        second = function(*handed)
        kept = copy.deepcopy(first)
        spoil(first)
        self.assertNotEqual(first, kept)
        self.assert_same(repr(handed), before)
        self.assert_same(second, kept)
        self.assert_same(function(*handed), kept)
        spoil(list(handed))
        self.assert_same(second, kept)

    def assert_parts_apart(self, run):
        """Spoiling the stem of a told run leaves its ring alone, and the other way round."""
        stem, ring = copy.deepcopy(run)
        spoil(run[0])
        self.assert_same(run[1], ring)
        spoil(run[1])
        self.assert_same(run[0][1:], (stem + ["spoilt"])[1:])
