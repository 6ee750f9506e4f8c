import unittest

from helper import ALL_LETTERS, OTHER_KINDS, Case, show, small_runs

from lassoscribe.runs import ahead, dimmed, fold, is_run, rest, sign

FAR = 10 ** 60 - 1
SOME_RUNS = small_runs(["", "b"], 2, 3) + [
    (["a", "ab", "abc"], ["", "b", "a", "z", "az"]),
    ([ALL_LETTERS] * 3, ["m", "m"]),
    (["a", "b"] * 1500, ["b", "", "c"] * 1000),
]


def same_list_twice():
    one_list = ["a", "b"]
    return (one_list, one_list)


class IsRunTest(Case):
    def test_true_of_runs(self):
        for run in SOME_RUNS + [([], [""]), ([], ["a"]), (["", ""], [ALL_LETTERS]), same_list_twice()]:
            with self.subTest(repr(run)[:60]):
                self.assert_told(True, is_run, run)

    def test_true_up_to_three_thousand_moments(self):
        self.assert_told(True, is_run, (["a"] * 3000, ["b"]))
        self.assert_told(True, is_run, ([], ["b"] * 3000))
        self.assert_told(True, is_run, (["a"] * 3000, [""] * 3000))

    def test_false_beyond_three_thousand_moments(self):
        self.assert_told(False, is_run, (["a"] * 3001, ["b"]))
        self.assert_told(False, is_run, ([], ["b"] * 3001))
        self.assert_told(False, is_run, (["a"] * 3001, ["b"] * 3001))

    def test_false_of_an_empty_ring(self):
        self.assert_told(False, is_run, ([], []))
        self.assert_told(False, is_run, (["a"], []))

    def test_false_of_lists_and_tuples_in_each_others_place(self):
        for thing in [[["a"], ["b"]], [[], ["b"]], (("a",), ["b"]), ((), ["b"]), (["a"], ("b",)), (("a",), ("b",))]:
            with self.subTest(repr(thing)):
                self.assert_told(False, is_run, thing)

    def test_false_of_other_kinds_in_the_place_of_a_list(self):
        for part in [None, True, False, 0, 1, "", "a", "ab", {}, {"a": "b"}, {0: "a"}]:
            with self.subTest(repr(part)):
                self.assert_told(False, is_run, (part, ["b"]))
                self.assert_told(False, is_run, (["b"], part))

    def test_false_of_one_or_three_things(self):
        for thing in [(), (["a"],), (["a"], ["b"], ["c"]), ([], ["b"], [])]:
            with self.subTest(repr(thing)):
                self.assert_told(False, is_run, thing)

    def test_false_where_something_is_no_moment(self):
        for wrong in ["ba", "aa", "A", "-", " ", "a b", "0"] + OTHER_KINDS:
            for size in range(1, 4):
                for spot in range(size):
                    part = ["a"] * size
                    part[spot] = wrong
                    with self.subTest(wrong=repr(wrong)[:40], size=size, spot=spot):
                        self.assert_told(False, is_run, (part, ["b"]))
                        self.assert_told(False, is_run, (["b"], part))

    def test_false_where_the_last_of_many_is_no_moment(self):
        self.assert_told(False, is_run, (["a"] * 2999 + ["ba"], ["b"] * 3000))
        self.assert_told(False, is_run, (["a"] * 3000, ["b"] * 2999 + [None]))

    def test_false_of_every_other_kind(self):
        for thing in OTHER_KINDS + ["", "a", "ab", "a / b", "([], ['a'])"]:
            with self.subTest(repr(thing)[:60]):
                self.assert_told(False, is_run, thing)


class FoldAndSignTest(Case):
    def test_near_places(self):
        for run in SOME_RUNS:
            count = len(run[0]) + len(run[1])
            shown = show(run, 3 * count + 5)
            for place in list(range(12)) + list(range(count - 2, count + 3)) + [2 * count, 3 * count + 4]:
                if 0 <= place < len(shown):
                    with self.subTest(run=repr(run)[:60], place=place):
                        self.assert_folded(run, place)
                        self.assert_told(shown[place], sign, run, place)

    def assert_folded(self, run, place):
        folded = self.ask(fold, run, place)
        stem_length, ring_length = len(run[0]), len(run[1])
        self.assertIs(type(folded), int)
        if place < stem_length + ring_length:
            self.assertEqual(folded, place)
        else:
            self.assertTrue(stem_length <= folded < stem_length + ring_length)
            self.assertEqual((place - folded) % ring_length, 0)

    def test_about_the_ends_by_hand(self):
        run = (["a", "b"], ["c", "d", "e"])
        for place, folded, moment in [(0, 0, "a"), (1, 1, "b"), (2, 2, "c"), (3, 3, "d"), (4, 4, "e"),
                                      (5, 2, "c"), (6, 3, "d"), (7, 4, "e"), (8, 2, "c"), (302, 2, "c")]:
            with self.subTest(place):
                self.assert_told(folded, fold, run, place)
                self.assert_told(moment, sign, run, place)

    def test_without_a_stem(self):
        for place in range(9):
            self.assert_told(place % 3, fold, ([], ["a", "b", "c"]), place)
            self.assert_told("abc"[place % 3], sign, ([], ["a", "b", "c"]), place)

    def test_places_of_sixty_figures(self):
        for run in SOME_RUNS:
            stem, ring = run
            for place in [FAR, FAR - 1, FAR - 2, 10 ** 59, 10 ** 30 + 7, len(stem) + 10 ** 50 * len(ring)]:
                with self.subTest(run=repr(run)[:60], place=place):
                    self.assert_folded(run, place)
                    self.assert_told(ring[(place - len(stem)) % len(ring)], sign, run, place)


class RestTest(Case):
    def test_in_the_stem_at_its_end_and_in_the_ring(self):
        run = (["a", "b"], ["c", "d", "e"])
        for place, expected in [(0, (["a", "b"], ["c", "d", "e"])), (1, (["b"], ["c", "d", "e"])),
                                (2, ([], ["c", "d", "e"])), (3, ([], ["d", "e", "c"])),
                                (4, ([], ["e", "c", "d"])), (5, ([], ["c", "d", "e"])),
                                (6, ([], ["d", "e", "c"])), (2 + 3 * 10 ** 58 + 2, ([], ["e", "c", "d"]))]:
            with self.subTest(place):
                self.assert_told(expected, rest, run, place)

    def test_shows_what_the_run_shows_from_there_on(self):
        for run in SOME_RUNS:
            stem, ring = run
            for place in [0, 1, 2, 3, 4, 5, 6, 2999, 3000, 3001, 5999, 6000, FAR]:
                with self.subTest(run=repr(run)[:60], place=place):
                    told = self.ask(rest, run, place)
                    self.assertEqual(len(told[0]), max(0, len(stem) - place))
                    self.assertEqual(len(told[1]), len(ring))
                    many = len(stem) + len(ring) + 9
                    self.assert_same(show(told, many), [sign(run, place + step) for step in range(many)])

    def test_nothing_is_made_shorter(self):
        self.assert_told((["a"], ["a", "a"]), rest, (["a", "a"], ["a", "a"]), 1)
        self.assert_told(([], ["a", "a"]), rest, (["a", "a"], ["a", "a"]), 3)
        self.assert_told(([], ["b", "a", "b", "a"]), rest, ([], ["a", "b", "a", "b"]), 5)

    def test_told_is_the_askers_own(self):
        for place in range(9):
            self.assert_own(rest, (["a", "b"], ["c", "d", "e"]), place)
            self.assert_parts_apart(rest(same_list_twice(), place))


class AheadTest(Case):
    def test_no_signs_and_some(self):
        self.assert_told((["a"], ["b"]), ahead, [], (["a"], ["b"]))
        self.assert_told(([], ["b"]), ahead, [], ([], ["b"]))
        self.assert_told((["", "z"], ["b"]), ahead, ["", "z"], ([], ["b"]))
        self.assert_told((["", "z", "a", "c"], ["b", "d"]), ahead, ["", "z"], (["a", "c"], ["b", "d"]))

    def test_nothing_is_made_shorter(self):
        self.assert_told((["a", "a", "a"], ["a", "a"]), ahead, ["a", "a"], (["a"], ["a", "a"]))

    def test_up_to_three_thousand_signs(self):
        expected = (["a"] * 1000 + ["b"] * 2000, ["c"] * 3000)
        self.assert_told(expected, ahead, ["a"] * 1000, (["b"] * 2000, ["c"] * 3000))

    def test_told_is_the_askers_own(self):
        for signs in [[], ["a"], ["a", "b"]]:
            for stem in [[], ["c"], ["c", "d"]]:
                self.assert_own(ahead, list(signs), (list(stem), ["e", "f"]))
        run = same_list_twice()
        self.assert_parts_apart(ahead([], run))
        self.assert_parts_apart(ahead(run[0], run))


class DimmedTest(Case):
    def test_no_lamps_some_and_all(self):
        run = (["a", "abc", ""], ["b", "ac", "z"])
        self.assert_told((["", "", ""], ["", "", ""]), dimmed, run, "")
        self.assert_told((["a", "a", ""], ["", "a", ""]), dimmed, run, "a")
        self.assert_told((["", "bc", ""], ["b", "c", "z"]), dimmed, run, "bcyz")
        self.assert_told(run, dimmed, run, "abcz")
        self.assert_told(run, dimmed, run, ALL_LETTERS)
        self.assert_told((["", "", ""], ["", "", ""]), dimmed, run, "defg")

    def test_nothing_is_made_shorter(self):
        self.assert_told((["a"] * 3000, ["a"] * 3000), dimmed, (["a", "ab"] * 1500, ["ac", "a"] * 1500), "a")
        self.assert_told(([], ["", ""]), dimmed, ([], ["a", "b"]), "")

    def test_told_is_the_askers_own(self):
        for lamps in ["", "a", "abc", ALL_LETTERS]:
            self.assert_own(dimmed, (["a", "bc"], ["ab"]), lamps)
            self.assert_own(dimmed, ([], ["c"]), lamps)
            self.assert_parts_apart(dimmed(same_list_twice(), lamps))


if __name__ == "__main__":
    unittest.main()
