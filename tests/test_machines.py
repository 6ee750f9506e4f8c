import itertools
import random
import unittest

from helper import ALL_LETTERS, OTHER_KINDS, Case, drawn_machine, nested, small_runs, walks

from lassoscribe.machines import is_machine, is_walk, lit_along, machine_of

LIT = ["a", "", "b"]
WAYS = [(0, 1), (1, 2), (2, 0), (1, 1)]
STARTS = [0, 2]
MARKS = [[0, 3], []]
GREAT = 10 ** 60 - 1
EVERY_WAY = [(begin, end) for begin in range(8) for end in range(8)]


class IsMachineTest(Case):
    def assert_machine(self, thing):
        self.assert_told(True, is_machine, thing)

    def assert_none(self, thing):
        self.assert_told(False, is_machine, thing)

    def test_machines(self):
        for machine in [
            (LIT, WAYS, STARTS, MARKS), ([""], [], [], []), (["a"], [(0, 0)], [0], [[0]]), (["a"], [(0, 0)], [0], [[]]),
            (["", ""], [(1, 0)], [1], [[0], [0], [0]]), ([ALL_LETTERS], [], [0], [[], [], []]),
            (["a"] * 8, EVERY_WAY[:24], list(range(8)), [list(range(24))] * 3),
            (["a"] * 8, EVERY_WAY[40:], [7, 0], [list(range(23, -1, -1))]),
        ]:
            with self.subTest(repr(machine)):
                self.assert_machine(machine)

    def test_a_part_too_few_or_too_many(self):
        whole = (LIT, WAYS, STARTS, MARKS)
        for many in range(4):
            self.assert_none(whole[:many])
        for more in [[], None, MARKS, [0]]:
            self.assert_none(whole + (more,))
        for place in range(4):
            self.assert_none(whole[:place] + whole[place + 1:])

    def test_other_kinds_as_a_whole(self):
        for thing in OTHER_KINDS + ["", "state a", "abcd", [LIT, WAYS, STARTS, MARKS], nested(100),
                                    {"lit": LIT, "ways": WAYS, "starts": STARTS, "marks": MARKS},
                                    {0: LIT, 1: WAYS, 2: STARTS, 3: MARKS}]:
            with self.subTest(repr(thing)[:60]):
                self.assert_none(thing)

    def test_other_kinds_in_the_place_of_each_list(self):
        things = [thing for thing in OTHER_KINDS if not isinstance(thing, list)] + [
            "", "a", "ab", nested(98), tuple(LIT), tuple(WAYS), tuple(STARTS), tuple(MARKS), dict(enumerate(LIT))]
        for place in range(4):
            for thing in things:
                whole = [LIT, WAYS, STARTS, MARKS]
                whole[place] = thing
                with self.subTest(place=place, thing=repr(thing)[:60]):
                    self.assert_none(tuple(whole))

    def test_other_things_in_each_list(self):
        strange = OTHER_KINDS + ["A", "ba", "aa", "-", " ", "a b", "0", nested(97), (0,), (0, 1, 2), [0, 1], (0, 3), (3, 0),
                                 (-1, 0), (0, -1), (0, True), (False, 1), ("0", "1"), (0, None), (GREAT, 0), (0, -GREAT)]
        for place in range(4):
            good = [LIT, WAYS, STARTS, MARKS][place]
            for thing in strange:
                if place == 2 and type(thing) is int and thing in (0, 1) or place == 3 and thing in ([], [0, 1]):
                    continue
                for added in [good + [thing], [thing] + good, [thing], [good[0], thing]]:
                    whole = [LIT, WAYS, STARTS, MARKS]
                    whole[place] = added
                    if place == 0:
                        # Fewer states would be a fault of their own in what names them.
                        whole[1:] = [[], [], []]
                    if place == 1:
                        whole[3] = []
                    with self.subTest(place=place, added=repr(added)[:60]):
                        self.assert_none(tuple(whole))

    def test_no_state_and_nine(self):
        self.assert_none(([], [], [], []))
        for many in range(1, 9):
            self.assert_machine((["a"] * many, [], [many - 1], []))
        for many in [9, 10, 6000]:
            self.assert_none((["a"] * many, [], [], []))
            self.assert_none((["a"] * many, [(0, 1)], [0], []))

    def test_each_moment(self):
        for moment in ["", "a", "z", "az", ALL_LETTERS]:
            for place in range(3):
                self.assert_machine((LIT[:place] + [moment] + LIT[place + 1:], WAYS, STARTS, MARKS))
        for thing in ["A", "ba", "aa", "a ", "-", "0", None, 0, True, [], ["a"], ("a",), {}, {"a": 1}]:
            for place in range(3):
                self.assert_none((LIT[:place] + [thing] + LIT[place + 1:], WAYS, STARTS, MARKS))

    def test_each_way(self):
        for place in range(4):
            for way in [(0, 3), (3, 0), (-1, 0), (0, -1), (0, -3), (True, 1), (0, True), (False, 2), (2, False),
                        (0, None), (None, 0), ("0", 2), (0, "2"), (0,), (), (0, 2, 0), [0, 2], (0, [2]), ((0, 2),),
                        (GREAT, 2), (0, GREAT), "02", 2, None, {0: 2}]:
                with self.subTest(place=place, way=repr(way)):
                    self.assert_none((LIT, WAYS[:place] + [way] + WAYS[place + 1:], STARTS, []))
            self.assert_machine((LIT, WAYS[:place] + [(0, 2)] + WAYS[place + 1:], STARTS, MARKS))

    def test_each_start_and_each_number_of_a_mark(self):
        for thing in [3, -1, -3, GREAT, -GREAT, True, False, None, "0", "", [0], (0,), {}]:
            with self.subTest(repr(thing)):
                self.assert_none((LIT, WAYS, [thing], MARKS))
                self.assert_none((LIT, WAYS, [2, thing], MARKS))
                self.assert_none((LIT, WAYS[:3], STARTS, [[2], [thing]]))
                self.assert_none((LIT, WAYS[:3], STARTS, [[thing, 2]]))
        self.assert_machine((LIT, WAYS, [1], MARKS))
        self.assert_machine((LIT, WAYS, STARTS, [[3]]))
        self.assert_none((LIT, WAYS, STARTS, [[4]]))

    def test_each_once(self):
        self.assert_none((LIT, WAYS + [(1, 2)], STARTS, MARKS))
        self.assert_none((LIT, [(0, 0), (0, 0)], STARTS, []))
        self.assert_none((LIT, WAYS, [0, 0], MARKS))
        self.assert_none((LIT, WAYS, [0, 1, 2, 1], MARKS))
        self.assert_none((LIT, WAYS, [0] * 6000, MARKS))
        self.assert_none((LIT, WAYS, STARTS, [[], [3, 3]]))
        self.assert_none((LIT, WAYS, STARTS, [[0, 1, 0], []]))
        # Moments and marks may be alike, and a way's number may stand in several marks.
        self.assert_machine((["a", "a", "a"], WAYS, STARTS, [[0, 1], [0, 1], []]))

    def test_twenty_four_ways_and_twenty_five(self):
        for lit, ways in [(["a"] * 8, EVERY_WAY), (["a"] * 5, [way for way in EVERY_WAY if max(way) < 5])]:
            self.assert_machine((lit, ways[:24], [0], [[23]]))
            self.assert_none((lit, ways[:25], [0], [[23]]))
            self.assert_none((lit, ways[:25], [0], []))

    def test_three_marks_and_four(self):
        for mark in [[], [0], [2, 1]]:
            self.assert_machine((LIT, WAYS, STARTS, [mark] * 3))
            self.assert_none((LIT, WAYS, STARTS, [mark] * 4))
        for mark in [None, 0, (), (0,), "", "0", {}, True]:
            for place in range(3):
                marks = [[0], [1], [2]]
                marks[place] = mark
                self.assert_none((LIT, WAYS, STARTS, marks))

    def test_great_things(self):
        self.assert_none((["a"] * 6000, [], [], []))
        self.assert_none((LIT, [(0, 1)] * 2000, [], []))
        self.assert_none((LIT, [(0, place) for place in range(2000)], [], []))
        self.assert_none((LIT, WAYS, list(range(6000)), []))
        self.assert_none((LIT, WAYS, [], [[]] * 6000))
        self.assert_none((LIT, WAYS, [], [list(range(6000))]))
        self.assert_none((LIT, WAYS, [nested(97)], MARKS))


class IsWalkTest(Case):
    MACHINE = (LIT, WAYS, STARTS, [])

    def test_walks(self):
        for stem, ring in [([], [0, 1, 2]), ([0], [1]), ([0, 1, 1], [1]), ([2, 0], [1, 1, 2, 0]), ([], [2, 0, 1, 1, 1]),
                           ([0, 1, 2], [0, 1, 2] * 40), ([2], [0, 1, 2])]:
            with self.subTest(stem=stem, ring=ring):
                self.assert_told(True, is_walk, self.MACHINE, stem, ring)

    def test_the_ring_empty(self):
        for stem in [[], [0], [0, 1], [0, 1, 2, 0]]:
            self.assert_told(False, is_walk, self.MACHINE, stem, [])
            self.assert_told(False, is_walk, (LIT, [], STARTS, []), stem, [])

    def test_a_step_that_is_no_way(self):
        for stem, ring in [([0, 2], [0, 1, 2]), ([0, 0], [1]), ([0], [2, 0, 1]), ([], [0, 2]), ([0], [1, 0]), ([], [0]),
                           ([0, 1], [2, 0]), ([], [0, 1]), ([0, 1], [2])]:
            with self.subTest(stem=stem, ring=ring):
                self.assert_told(False, is_walk, self.MACHINE, stem, ring)

    def test_a_way_is_not_gone_backward(self):
        self.assert_told(True, is_walk, (["", ""], [(0, 1), (1, 1)], [0], []), [0], [1])
        self.assert_told(False, is_walk, (["", ""], [(1, 0), (1, 1)], [0], []), [0], [1])

    def test_a_first_state_that_is_no_start(self):
        self.assert_told(False, is_walk, self.MACHINE, [1], [2, 0, 1])
        self.assert_told(False, is_walk, self.MACHINE, [], [1])
        self.assert_told(False, is_walk, (LIT, WAYS, [], []), [], [0, 1, 2])
        self.assert_told(False, is_walk, (LIT, WAYS, [2, 0], []), [1, 2, 0], [1])
        self.assert_told(True, is_walk, (LIT, WAYS, [1], []), [1, 2, 0], [1])
        # Where there is a stem, it is the stem's first state that has to be a start.
        self.assert_told(True, is_walk, (LIT, WAYS, [2], []), [2], [0, 1, 2])
        self.assert_told(False, is_walk, (LIT, WAYS, [0], []), [2], [0, 1, 2])

    def test_marks_on_the_ring(self):
        for marks, truth in [([], True), ([[]], False), ([[1]], True), ([[3]], False), ([[1, 3]], True),
                             ([[0], [1], [2]], True), ([[0], [3]], False), ([[3, 0], [3, 1], []], False)]:
            with self.subTest(marks=marks):
                self.assert_told(truth, is_walk, (LIT, WAYS, STARTS, marks), [0, 1, 1, 2], [0, 1, 2])

    def test_the_step_back_to_the_rings_begin_counts(self):
        for ring in [[0, 1, 2], [2, 0, 1]]:
            for number in range(3):
                self.assert_told(True, is_walk, (LIT, WAYS, STARTS, [[number]]), [], ring)
        self.assert_told(True, is_walk, (LIT, WAYS, STARTS, [[3]]), [0], [1])

    def test_the_step_from_stem_to_ring_does_not_count(self):
        self.assert_told(False, is_walk, (LIT, WAYS, STARTS, [[0]]), [0], [1])
        self.assert_told(False, is_walk, (LIT, WAYS, STARTS, [[1], [3]]), [0, 1], [2, 0, 1])

    def test_numbers_that_are_no_states(self):
        for number in [3, -1, -2, -3, GREAT, -GREAT]:
            for stem, ring in [([number], [0, 1, 2]), ([0, number], [1]), ([], [number]), ([0], [1, number]),
                               ([], [number, 1, 2]), ([0, 1, number], [0, 1, 2])]:
                with self.subTest(stem=stem, ring=ring):
                    self.assert_told(False, is_walk, self.MACHINE, stem, ring)

    def test_all_small_walks_of_drawn_machines(self):
        source = random.Random(240)
        found = {True: 0, False: 0}
        for _ in range(60):
            machine = drawn_machine(source, 3, ["", "a"])
            for stem_length, ring_length in itertools.product(range(3), range(4)):
                for states in itertools.product(range(len(machine[0])), repeat=stem_length + ring_length):
                    stem, ring = list(states[:stem_length]), list(states[stem_length:])
                    truth = walks(machine, stem, ring)
                    found[truth] += 1
                    self.assert_told(truth, is_walk, machine, stem, ring)
        self.assertGreater(min(found.values()), 200)


class LitAlongTest(Case):
    def test_moments_of_the_states(self):
        machine = (["a", "", "bc"], WAYS, STARTS, [])
        self.assert_told(([], ["a", "", "bc"]), lit_along, machine, [], [0, 1, 2])
        self.assert_told((["bc", "a", ""], ["", ""]), lit_along, machine, [2, 0, 1], [1, 1])
        self.assert_told(([], ["", "", "bc", "a"] * 200), lit_along, machine, [], [1, 1, 2, 0] * 200)

    def test_told_is_the_askers_own(self):
        self.assert_own(lit_along, (["a", "b"], [(0, 1), (1, 0)], [0], []), [0, 1], [0, 1])
        self.assert_lists_apart(lit_along((["a", "b"], [(0, 1), (1, 0)], [0], []), [0, 1], [0, 1]))
        machine, ring = (["a"], [(0, 0)], [0], []), [0]
        self.assert_lists_apart((machine, ring, lit_along(machine, [], ring)))


class MachineOfTest(Case):
    def test_by_hand(self):
        self.assert_told((["a"], [(0, 0)], [0], []), machine_of, ([], ["a"]))
        self.assert_told((["a", "b"], [(0, 1), (1, 0)], [0], []), machine_of, ([], ["a", "b"]))
        self.assert_told((["a", "b"], [(0, 1), (1, 1)], [0], []), machine_of, (["a"], ["b"]))
        self.assert_told((["", "ab", "a", "a"], [(0, 1), (1, 2), (2, 3), (3, 2)], [0], []), machine_of,
                         (["", "ab"], ["a", "a"]))
        self.assert_told((["a"] * 8, [(place, place + 1) for place in range(7)] + [(7, 0)], [0], []), machine_of,
                         ([], ["a"] * 8))
        self.assert_told((["a"] * 8, [(place, place + 1) for place in range(7)] + [(7, 7)], [0], []), machine_of,
                         (["a"] * 7, ["a"]))

    def test_its_one_walk_shows_the_run(self):
        for run in small_runs(["", "a"], 3, 3) + [(["a"] * 5, ["b", "", "c"]), ([], list("abcdefgh"))]:
            machine = self.ask(machine_of, run)
            self.assertTrue(is_machine(machine))
            places = list(range(len(run[0]) + len(run[1])))
            stem, ring = places[:len(run[0])], places[len(run[0]):]
            self.assertTrue(is_walk(machine, stem, ring) and walks(machine, stem, ring))
            self.assert_same(lit_along(machine, stem, ring), run)
            self.assertEqual(len(machine[1]), len(places))

    def test_told_is_the_askers_own(self):
        for run in [([], ["a"]), (["a", "b"], ["c"]), ([], ["a", "b"])]:
            self.assert_own(machine_of, (list(run[0]), list(run[1])))
            self.assert_lists_apart((run, machine_of(run)))


if __name__ == "__main__":
    unittest.main()
