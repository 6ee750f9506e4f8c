import unittest

from helper import ALL_LETTERS, Case, show, small_runs

from lassoscribe.runs import is_run, least, parting, thinned

# Long enough that two small runs that agree so far agree for ever: stems of at most three
# moments, rings of at most four.
ENOUGH = 40


def thin_list(moments):
    return [moment for place, moment in enumerate(moments) if place == 0 or moments[place - 1] != moment]


class LeastTest(Case):
    def test_by_hand(self):
        for run, expected in [
            (([], ["a"]), ([], ["a"])),
            (([], ["a", "a"]), ([], ["a"])),
            (([], ["a", "b", "a", "b"]), ([], ["a", "b"])),
            (([], ["a", "b", "a"]), ([], ["a", "b", "a"])),
            (([], ["a", "b", "a", "b", "a"]), ([], ["a", "b", "a", "b", "a"])),
            (([], ["a", "a", "b", "a", "a", "b"]), ([], ["a", "a", "b"])),
            (([], ["a", "b", "a", "b", "a", "a"]), ([], ["a", "b", "a", "b", "a", "a"])),
            ((["a"], ["a"]), ([], ["a"])),
            ((["b", "a", "a"], ["a", "a"]), (["b"], ["a"])),
            ((["b"], ["a", "b"]), ([], ["b", "a"])),
            ((["a", "b"], ["a", "b"]), ([], ["a", "b"])),
            ((["b", "a", "b"], ["a", "b"]), ([], ["b", "a"])),
            ((["c", "b", "a", "b"], ["a", "b", "a", "b"]), (["c"], ["b", "a"])),
            ((["b"], ["a", "c"]), (["b"], ["a", "c"])),
            ((["a"], ["a", "c"]), (["a"], ["a", "c"])),
            ((["", "a"], ["", "a"]), ([], ["", "a"])),
            ((["x", "b", "c"], ["a", "b", "c"]), (["x"], ["b", "c", "a"])),
        ]:
            with self.subTest(repr(run)):
                self.assert_told(expected, least, run)

    def test_shortest_of_all_runs_that_show_the_same(self):
        groups = {}
        for run in small_runs(["", "a"], 3, 4):
            groups.setdefault(tuple(show(run, ENOUGH)), []).append(run)
        for shown, runs in groups.items():
            shortest = (min(len(run[0]) for run in runs), min(len(run[1]) for run in runs))
            expected = [run for run in runs if (len(run[0]), len(run[1])) == shortest]
            self.assertEqual(len(expected), 1)
            for run in runs:
                with self.subTest(repr(run)):
                    self.assert_told(expected[0], least, run)

    def test_the_same_run_told_longer(self):
        stem, ring = ["c", "", "a"], ["ab", "b", "ab", "d", ""]
        for begun in range(12):
            for times in range(1, 4):
                turn = show(([], ring), begun + 5)[begun:]
                longer = (stem + show(([], ring), begun), turn * times)
                with self.subTest(begun=begun, times=times):
                    self.assert_told((stem, ring), least, longer)

    def test_rings_of_every_length_said_again(self):
        for size in range(1, 31):
            turn = [ALL_LETTERS[place % 26] for place in range(size - 1)] + [ALL_LETTERS]
            for times in range(1, 5):
                self.assert_told(([], turn), least, ([], turn * times))
                self.assert_told((["az"], turn), least, (["az"] + turn * times, turn * times))

    def test_long_runs(self):
        self.assert_told(([], ["a"]), least, (["a"] * 3000, ["a"] * 3000))
        self.assert_told(([], ["a", "b"]), least, (["a", "b"] * 1500, ["a", "b"] * 1500))
        self.assert_told((["b"], ["a"]), least, (["b"] + ["a"] * 2999, ["a"] * 3000))
        ring = ["a"] * 2999 + ["b"]
        self.assert_told(([], ring), least, (list(ring), list(ring)))
        self.assert_told(([], ["b"] + ["a"] * 2999), least, (["b"], list(ring)))
        self.assert_told((["b"] * 3000, ["a"] * 2999 + ["c"]), least, (["b"] * 3000, ["a"] * 2999 + ["c"]))
        half = ["a"] * 1499 + ["b"]
        self.assert_told(([], half), least, (half * 2, half * 2))
        nearly = half + ["a"] * 1498 + ["b", "b"]
        self.assert_told(([], nearly), least, ([], nearly))

    def test_told_is_the_askers_own(self):
        for run in [([], ["a"]), (["b"], ["a"]), (["b"], ["a", "b"]), (["c"], ["a", "b", "a", "b"])]:
            self.assert_own(least, run)
        one_list = ["a", "b"]
        self.assert_parts_apart(least((one_list, one_list)))


class PartingTest(Case):
    def test_by_hand(self):
        for one, other, expected in [
            (([], ["a"]), ([], ["a"]), None),
            (([], ["a"]), ([], ["b"]), 0),
            (([], [""]), ([], ["a"]), 0),
            ((["a", "b"], ["c"]), (["a", "c"], ["c"]), 1),
            ((["a"], ["b"]), (["a"], ["b", "c"]), 2),
            ((["a", "b"], ["c"]), (["a"], ["b", "c"]), 3),
            ((["a", "b", "a"], ["b", "a"]), ([], ["a", "b"]), None),
            (([], ["a", "b"]), ([], ["a", "b", "a"]), 3),
            (([], ["a", "a", "b"]), ([], ["a", "a", "b", "a", "a", "b"]), None),
            ((["a", "a", "a", "a"], ["b"]), ([], ["a"]), 4),
        ]:
            with self.subTest(one=one, other=other):
                self.assert_told(expected, parting, one, other)
                self.assert_told(expected, parting, other, one)

    def test_all_pairs_of_small_runs(self):
        runs = small_runs(["", "a"], 2, 3) + small_runs(["", "a"], 0, 4)
        shown = [show(run, ENOUGH) for run in runs]
        for number, one in enumerate(runs):
            for place, other in enumerate(runs):
                apart = [spot for spot in range(ENOUGH) if shown[number][spot] != shown[place][spot]]
                expected = apart[0] if apart else None
                self.assertEqual(self.ask(parting, one, other), expected, (one, other))

    def test_as_late_as_two_rings_can_part(self):
        # Rings of n and n - 1 places that show the same for 2n - 3 places, and then part.
        for size in [2, 3, 4, 7, 50, 3000]:
            one = ["a"] * (size - 2) + ["b", "a"]
            other = ["a"] * (size - 2) + ["b"]
            for stem_length in [0, 1, 3000]:
                stem = ["c"] * stem_length
                expected = stem_length + 2 * size - 3
                with self.subTest(size=size, stem_length=stem_length):
                    self.assert_told(expected, parting, (stem, one), (list(stem), other))
                    self.assert_told(expected, parting, (list(stem), other), (stem, one))

    def test_late_with_one_stem_only(self):
        size = 3000
        one = (["a"] * 2000, ["a"] * (size - 2) + ["b", "a"])
        other = (["a"] * 2000 + ["a"] * 1, ["a"] * (size - 3) + ["b", "a"])
        self.assert_told(2000 + 2 * size - 3, parting, one, other)

    def test_long_runs(self):
        ring = ["a", "b", "c"] * 1000
        self.assert_told(None, parting, ([], ["a", "b", "c"]), (ring, ring))
        self.assert_told(None, parting, (["a"] * 3000, ["a"] * 2999), ([], ["a"]))
        self.assert_told(2999, parting, (["a"] * 2999 + ["b"], ["a"]), ([], ["a"] * 2999))
        self.assert_told(3000, parting, (["a"] * 3000, ["b"]), ([], ["a"]))
        self.assert_told(5999, parting, (["a"] * 3000, ["a"] * 2999 + ["b"]), ([], ["a"]))


class ThinnedTest(Case):
    def test_by_hand(self):
        for run, expected in [
            (([], ["a"]), ([], ["a"])),
            (([], ["a", "a"]), ([], ["a"])),
            ((["a", "a"], ["a"]), ([], ["a"])),
            ((["b", "b", "a", "a"], ["a", "a"]), (["b"], ["a"])),
            (([], ["a", "a", "b"]), ([], ["a", "b"])),
            (([], ["a", "b", "b"]), ([], ["a", "b"])),
            (([], ["a", "b", "a"]), ([], ["a", "b"])),
            (([], ["b", "a", "a", "b", "b"]), ([], ["b", "a"])),
            ((["c", "c", "b"], ["a", "b"]), (["c"], ["b", "a"])),
            ((["c", "a"], ["a", "b"]), (["c"], ["a", "b"])),
            ((["c", "a"], ["a", "b", "a"]), (["c"], ["a", "b"])),
            ((["a"], ["b", "c", "b"]), (["a"], ["b", "c"])),
            ((["", ""], ["a", "a", "", "", "a"]), ([], ["", "a"])),
            (([], ["a", "a", "b", "a", "b", "b"]), ([], ["a", "b"])),
            ((["a", "b", "a", "a"], ["c"]), (["a", "b", "a"], ["c"])),
            ((["a", "b"], ["a", "b", "b", "c"]), (["a", "b"], ["a", "b", "c"])),
        ]:
            with self.subTest(repr(run)):
                self.assert_told(expected, thinned, run)

    def test_shows_the_moments_without_those_that_follow_their_like(self):
        for run in small_runs(["", "a", "ab"], 2, 4) + small_runs(["a", "b"], 4, 3):
            many = 60
            shown = show(run, many)
            kept = thin_list(shown)
            stem, ring = told = self.ask(thinned, run)
            with self.subTest(repr(run)):
                self.assertTrue(is_run(told))
                self.assert_same(told, least(told))
                if len(set(run[1])) == 1:
                    self.assert_same(ring, run[1][:1])
                    self.assert_same(stem + ring, kept)
                else:
                    self.assert_same(show(told, len(kept)), kept)

    def test_long_runs(self):
        self.assert_told(([], ["a"]), thinned, (["a"] * 3000, ["a"] * 3000))
        self.assert_told((["a"], ["b"]), thinned, (["a"] * 3000, ["b"] * 3000))
        self.assert_told(([], ["a", "b"]), thinned, (["a"] * 3000, ["b"] * 2999 + ["a"]))
        self.assert_told(([], ["a", "b"]), thinned, (["a", "b"] * 1500, ["a"] * 1500 + ["b"] * 1500))
        self.assert_told((["c"], ["a", "b"]), thinned, (["c"] * 3000, ["a", "a", "b"] * 1000))
        stem = [ALL_LETTERS[place % 26] for place in range(3000)]
        ring = [ALL_LETTERS[place % 26] for place in range(2999)] + ["az"]
        self.assert_told((stem, ring), thinned, (list(stem), list(ring)))

    def test_told_is_the_askers_own(self):
        for run in [([], ["a"]), (["b"], ["a"]), (["b"], ["a", "c"]), (["b", "b"], ["a", "a", "c"])]:
            self.assert_own(thinned, run)
        one_list = ["a", "b"]
        self.assert_parts_apart(thinned((one_list, one_list)))


if __name__ == "__main__":
    unittest.main()
