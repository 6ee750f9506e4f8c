import itertools
import random
import unittest

from helper import (A, B, C, NO, NO_SENTENCES, YES, Case, all_sentences, book_for, drawn_run, drawn_sentences,
                    is_paper_over, layers, small_runs, truths)

from lassoscribe.errors import NoSentence, TooMuch
from lassoscribe.watchers import takes, watcher

D = ("lamp", "d")


def dimmed_to(lamps, moment):
    return "".join(lamp for lamp in moment if lamp in lamps)


class TakesCase(Case):
    """What takes tells, walked by the test itself."""

    def assert_walked(self, seer, run, stem, ring):
        lamps, count, rows, marks = seer
        self.assertTrue(all(type(number) is int and 0 <= number < len(rows) for number in stem + ring))
        shown = run[0] + run[1] * (1 + (len(stem) + len(ring)) // len(run[1]))
        state, states = 0, []
        for place, number in enumerate(stem + ring):
            begin, moment, end, taken = rows[number]
            self.assertEqual((state, dimmed_to(lamps, shown[place])), (begin, moment))
            states.append(state)
            state = end
        self.assertGreater(len(ring), 0)
        self.assertEqual(state, states[len(stem)])
        self.assertEqual({mark for number in ring for mark in rows[number][3]}, set(range(marks)))
        self.assertGreaterEqual(len(stem), len(run[0]))
        self.assertEqual(len(ring) % len(run[1]), 0)
        pairs = count * (len(run[0]) + len(run[1]))
        self.assertLess(len(stem), pairs)
        self.assertLessEqual(len(ring), pairs * (marks + 1))

    def assert_left(self, seer, run, paper):
        lamps, count, rows, marks = seer
        shown = run[0] + run[1]
        kept = {}
        for part in paper:
            self.assertTrue(type(part) is tuple and len(part) == 4)
            place, state, rank, lack = part
            self.assertTrue(type(place) is int and type(state) is int)
            self.assertTrue(0 <= place < len(shown) and 0 <= state < count)
            self.assert_rank_and_lack(rank, lack)
            self.assertNotIn((place, state), kept)
            kept[place, state] = (rank, lack)
        ways = []
        for place, shown_moment in enumerate(shown):
            following = place + 1 if place + 1 < len(shown) else len(run[0])
            ways += [((place, begin), (following, end), taken) for begin, moment, end, taken in rows
                     if moment == dimmed_to(lamps, shown_moment)]
        self.assertTrue(is_paper_over(kept, [(0, 0)], ways, marks))

    def assert_takes(self, seer, run, expected=None):
        told = self.ask(takes, seer, run)
        self.assertIs(type(told), tuple)
        self.assertEqual([type(part) for part in told[1:]], [list] * (len(told) - 1))
        if told[0] == "taken":
            self.assertEqual(len(told), 3)
            self.assert_walked(seer, run, told[1], told[2])
        else:
            self.assertEqual((told[0], len(told)), ("left", 2))
            self.assert_left(seer, run, told[1])
        if expected is not None:
            self.assertEqual(told[0], expected)
        return told[0]


class TakesTest(TakesCase):
    def test_without_rows(self):
        for marks in [0, 1, 8]:
            for count in [1, 5, 50]:
                self.assert_takes(("", count, [], marks), ([], ["a"]), "left")
                self.assert_takes(("ab", count, [], marks), (["a"] * 3, ["", "b"]), "left")

    def test_without_lamps(self):
        seer = ("", 1, [(0, "", 0, ())], 0)
        for run in small_runs(["", "a", "xyz"], 2, 3):
            self.assert_takes(seer, run, "taken")
            self.assertEqual(takes(seer, run), ("taken", [0] * len(run[0]), [0] * len(run[1])))
        self.assert_takes(("", 1, [(0, "", 0, ())], 1), ([], ["a"]), "left")
        self.assert_takes(("", 1, [(0, "", 0, (0,))], 1), ([], ["a"]), "taken")

    def test_lamps_that_it_has_not_are_nothing_to_it(self):
        seer = ("b", 1, [(0, "b", 0, ())], 0)
        self.assert_takes(seer, (["abz"], ["bc", "b"]), "taken")
        self.assert_takes(seer, (["abz"], ["ac", "b"]), "left")
        self.assert_takes(seer, (["az"], ["bc", "b"]), "left")

    def test_it_begins_at_state_0_and_place_0(self):
        rows = [(1, "", 1, ()), (1, "a", 1, ()), (0, "a", 1, ())]
        self.assert_takes(("a", 2, rows, 0), (["a"], [""]), "taken")
        self.assert_takes(("a", 2, rows, 0), (["", "a"], ["a"]), "left")
        self.assert_takes(("a", 2, rows, 0), ([], ["", "a"]), "left")
        self.assert_takes(("a", 2, rows, 0), ([], ["a", ""]), "taken")

    def test_the_run_goes_on_from_the_rings_end_to_its_begin(self):
        rows = [(0, "a", 1, ()), (1, "", 2, ()), (2, "a", 1, ())]
        self.assert_takes(("a", 3, rows, 0), (["a"], ["", "a"]), "taken")
        self.assert_takes(("a", 3, rows, 0), (["a", ""], ["a"]), "left")
        self.assert_takes(("a", 3, rows, 0), ([], ["a", ""]), "taken")
        self.assert_takes(("a", 3, rows, 0), ([], ["a", "", "a"]), "left")

    def test_marks_again_and_again(self):
        # Mark 0 lies on the stem alone, mark 1 on the ring.
        rows = [(0, "a", 1, (0,)), (1, "", 1, (1,))]
        self.assert_takes(("a", 2, rows, 2), (["a"], [""]), "left")
        self.assert_takes(("a", 2, rows + [(1, "", 1, (0,))], 2), (["a"], [""]), "taken")
        self.assert_takes(("a", 2, rows + [(1, "a", 1, (0,))], 2), (["a"], [""]), "left")
        self.assert_takes(("a", 2, rows + [(1, "a", 1, (0,))], 2), (["a"], ["", "a"]), "taken")

    def test_a_ring_of_several_turns(self):
        # Three states in turn with a ring of two moments: six rows until both are back.
        rows = [(state, "", (state + 1) % 3, (0,) if state == 2 else ()) for state in range(3)]
        self.assertEqual(self.ask(takes, ("a", 3, rows, 1), ([], ["", ""])), ("taken", [], [0, 1, 2] * 2))
        self.assert_takes(("a", 3, rows, 1), ([""], ["", ""]), "taken")

    def test_eight_marks(self):
        rows = [(mark, "a" if mark % 2 else "", (mark + 1) % 8, (mark,)) for mark in range(8)]
        self.assert_takes(("a", 8, rows, 8), ([], ["", "a"]), "taken")
        self.assert_takes(("a", 8, rows, 8), (["", "a", ""], ["a", ""]), "taken")
        self.assert_takes(("a", 8, rows, 8), ([], ["a", ""]), "left")
        for missing in range(8):
            less = [row[:3] + ((),) if row[3] == (missing,) else row for row in rows]
            self.assert_takes(("a", 8, less, 8), ([], ["", "a"]), "left")
        every = tuple(range(8))
        self.assert_takes(("a", 1, [(0, "", 0, every)], 8), ([], [""]), "taken")

    def test_rows_alike(self):
        rows = [(0, "", 0, ()), (0, "", 0, ()), (0, "a", 0, (0,)), (0, "a", 0, (0,))]
        self.assert_takes(("a", 1, rows, 1), ([], ["", "a"]), "taken")
        self.assert_takes(("a", 1, rows, 1), (["a"], [""]), "left")

    def test_fifty_states(self):
        rows = [(state, "", state + 1, ()) for state in range(49)] + [(49, "", 49, (0,))]
        self.assert_takes(("", 50, rows, 1), (["a"] * 3, ["b"] * 9), "taken")
        self.assert_takes(("", 50, rows[:-1], 0), (["a"] * 3, ["b"] * 9), "left")
        self.assert_takes(("", 50, rows[:-1] + [(49, "", 0, ())], 0), ([], ["b"] * 12), "taken")

    def test_a_hundred_moments(self):
        source = random.Random(210)
        for stem_length, ring_length in [(0, 100), (99, 1), (50, 50), (1, 99)]:
            run = ([source.choice(["", "a"]) for _ in range(stem_length)], ["a"] + [""] * (ring_length - 1))
            keeps = ("a", 6, [(state, moment, state, (0,) if moment else ()) for state in range(6)
                              for moment in ["", "a"]], 1)
            self.assert_takes(keeps, run, "taken")
            # Each dark moment leads a state further, and there are but six of them.
            tires = ("a", 6, [(state, "a", state, ()) for state in range(6)]
                     + [(state, "", state + 1, ()) for state in range(5)], 0)
            self.assert_takes(tires, run, "left")
            if ring_length == 1:
                self.assert_takes(tires, (["a", ""] * 5 + ["a"] * 89, run[1]), "taken")
                self.assert_takes(tires, (["a", ""] * 6 + ["a"] * 87, run[1]), "left")

    def test_one_row_at_most_from_each_state_by_each_moment(self):
        source = random.Random(211)
        found = set()
        for _ in range(150):
            count, marks = source.randint(1, 4), source.randint(0, 2)
            rows = [(state, moment, source.randrange(count), tuple(m for m in range(marks) if source.random() < 0.5))
                    for state in range(count) for moment in ["", "a", "ab", "b"] if source.random() < 0.9]
            seer, run = ("ab", count, rows, marks), drawn_run(source, ["", "a", "b", "ab", "bc"], 3, 4)
            # There is but one way to go: gone by the test itself until place and state come again.
            state, place, been, gone = 0, 0, {}, []
            while (place, state) not in been:
                been[place, state] = len(gone)
                fits = [row for row in rows if row[:2] == (state, dimmed_to("ab", (run[0] + run[1])[place]))]
                if not fits:
                    break
                gone.append(fits[0])
                state = fits[0][2]
                place = place + 1 if place + 1 < len(run[0]) + len(run[1]) else len(run[0])
            ring = gone[been[place, state]:] if (place, state) in been else []
            fair = bool(ring) and {mark for row in ring for mark in row[3]} == set(range(marks))
            found.add(self.assert_takes(seer, run, "taken" if fair else "left"))
        self.assertEqual(found, {"taken", "left"})

    def test_drawn_watchers(self):
        source = random.Random(212)
        found = {"taken": 0, "left": 0}
        for _ in range(500):
            count, marks = source.randint(1, 5), source.choice([0, 1, 2, 3, 8])
            moments = ["", "a", "b", "ab"]
            rows = [(source.randrange(count), source.choice(moments), source.randrange(count),
                     tuple(mark for mark in range(marks) if source.random() < 0.4))
                    for _ in range(source.randint(0, 8 * count))]
            found[self.assert_takes(("ab", count, rows, marks), drawn_run(source, moments + ["ac", "z"], 3, 4))] += 1
        self.assertGreater(min(found.values()), 100)

    def test_six_hundred_pairs_and_six_thousand_ways(self):
        source = random.Random(213)
        found = set()
        for count, stem_length, ring_length, many in [(50, 2, 10, 500), (6, 20, 80, 60), (600, 0, 1, 6000),
                                                      (1, 300, 300, 10), (33, 6, 12, 333)]:
            for often in [0.02, 0.4]:
                rows = [(source.randrange(count), source.choice(["", "a"]), source.randrange(count),
                         tuple(mark for mark in range(8) if source.random() < often)) for _ in range(many)]
                run = ([source.choice(["", "a"]) for _ in range(stem_length)],
                       [source.choice(["", "a"]) for _ in range(ring_length)])
                found.add(self.assert_takes(("a", count, rows, 8), run))
                found.add(self.assert_takes(("a", count, [row[:3] + ((),) for row in rows], 0), run))
        self.assertEqual(found, {"taken", "left"})

    def test_told_is_the_askers_own(self):
        rows = [(0, "a", 1, (0,)), (1, "", 1, (1,)), (1, "", 1, (0,))]
        for run in [(["a"], [""]), (["a", ""], ["", "b"]), ([], ["a"]), (["a"], ["a"])]:
            self.assert_own(takes, ("a", 2, list(rows), 2), (list(run[0]), list(run[1])))
            self.assert_lists_apart(takes(("a", 2, rows, 2), run))


class WatcherTest(TakesCase):
    def assert_watcher(self, sentence):
        book = book_for(sentence)
        rows = []
        for moment in book.moments:
            for number, claims in enumerate(book.claims):
                view, begin, eased = book.look(moment, claims)
                if view[book.spots[0]]:
                    rows.append((0, moment, 1 + number, eased))
                rows.append((1 + book.claims.index(begin), moment, 1 + number, eased))
        self.assert_told((book.lamps, 1 + len(book.claims), rows, len(book.hopes)), watcher, sentence)

    def test_yes_and_no_alone(self):
        self.assert_told(("", 2, [(0, "", 1, ()), (1, "", 1, ())], 0), watcher, YES)
        self.assert_told(("", 2, [(1, "", 1, ())], 0), watcher, NO)
        for run in small_runs(["", "a"], 1, 2):
            self.assert_takes(watcher(YES), run, "taken")
            self.assert_takes(watcher(NO), run, "left")

    def test_a_lamp_a_next_and_an_until_by_hand(self):
        self.assert_told(("a", 2, [(1, "", 1, ()), (0, "a", 1, ()), (1, "a", 1, ())], 0), watcher, A)
        self.assert_told(("a", 3, [(1, "", 1, ()), (0, "", 2, ()), (1, "", 2, ()),
                                   (2, "a", 1, ()), (0, "a", 2, ()), (2, "a", 2, ())], 0), watcher, ("next", A))
        self.assert_told(("a", 3, [(1, "", 1, (0,)), (0, "", 2, ()), (2, "", 2, ()),
                                   (0, "a", 1, (0,)), (2, "a", 1, (0,)), (0, "a", 2, (0,)), (2, "a", 2, (0,))], 1),
                         watcher, ("atlast", A))

    def test_small_sentences_row_by_row(self):
        for sentence in all_sentences(3, [YES, NO, A, B]):
            self.assert_watcher(sentence)

    def test_drawn_sentences_row_by_row(self):
        within = [sentence for sentence in drawn_sentences(231, 900, range(4, 25))
                  if len(book_for(sentence).waits) <= 5]
        self.assertGreater(len(within), 250)
        self.assertTrue(any(len(book_for(sentence).waits) == 5 for sentence in within))
        for sentence in within:
            self.assert_watcher(sentence)

    def test_it_takes_just_the_runs_on_which_the_sentence_is_true(self):
        runs = small_runs(["", "a", "b"], 1, 2) + [(["", "a"], ["ab", "", "b"]), (["ab", "ac"], ["", "b", "b"])]
        for sentence in all_sentences(2, [YES, NO, A]) + [
                ("until", A, B), ("frees", A, B), ("then", A, ("next", B)), ("and", ("again", A), ("again", B)),
                ("settles", ("or", A, B)), ("always", ("then", A, ("atlast", B))), ("or", ("always", A), ("atlast", B))]:
            seer, denial = watcher(sentence), watcher(("not", sentence))
            for run in runs:
                truth = truths(sentence, run)[0]
                self.assert_takes(seer, run, "taken" if truth else "left")
                self.assert_takes(denial, run, "left" if truth else "taken")

    def test_drawn_sentences_on_drawn_runs(self):
        source = random.Random(232)
        found = {True: 0, False: 0}
        for sentence in drawn_sentences(233, 260, range(3, 24)):
            if len(book_for(sentence).waits) > 5:
                continue
            seer, denial = watcher(sentence), watcher(("not", sentence))
            for _ in range(3):
                run = drawn_run(source, ["", "a", "b", "ab", "c", "bc", "abcz"], 4, 5)
                truth = truths(sentence, run)[0]
                found[truth] += 1
                self.assert_takes(seer, run, "taken" if truth else "left")
                self.assert_takes(denial, run, "left" if truth else "taken")
        self.assertGreater(min(found.values()), 80)

    def test_what_is_no_sentence(self):
        for thing in NO_SENTENCES:
            with self.subTest(repr(thing)[:60]), self.assertRaises(NoSentence):
                watcher(thing)

    def test_no_sentence_goes_ahead_of_too_much(self):
        with self.assertRaises(TooMuch):
            watcher(("and", ("next", D), layers("again", 4, ("and", A, ("or", B, C)))))
        for thing in [layers("again", 24, A), ("and", layers("next", 9, A), ("or", ("or", A, B), ("or", C, ("lamp", "D"))))]:
            with self.assertRaises(NoSentence):
                watcher(thing)

    def test_five_waits_and_six(self):
        for five, six in [
            (layers("next", 5, A), layers("next", 6, A)),
            (("and", layers("again", 2, A), ("next", B)), layers("again", 3, A)),
            (("and", ("atlast", A), ("and", ("atlast", B), layers("next", 3, C))),
             ("and", ("atlast", A), ("and", ("atlast", B), layers("next", 4, C)))),
            (("or", layers("again", 2, A), ("always", B)), ("or", layers("again", 2, A), ("settles", B))),
            # A wait that stands there twice is counted once, by whatever words it comes.
            (("and", layers("next", 5, A), layers("next", 5, A)), ("and", layers("next", 5, A), ("next", B))),
            (("and", layers("again", 2, A), ("next", layers("again", 2, A))),
             ("and", layers("again", 2, A), ("and", ("next", B), ("next", A)))),
            (("or", ("always", ("not", A)), ("or", layers("next", 4, B), ("atlast", A))),
             ("or", ("always", A), ("or", layers("next", 4, B), ("atlast", A)))),
        ]:
            with self.subTest(repr(five)):
                self.assertEqual(len(book_for(five).waits), 5)
                self.assertEqual(len(book_for(six).waits), 6)
                self.assert_watcher(five)
                with self.assertRaises(TooMuch):
                    watcher(six)

    def test_three_lamps_and_four(self):
        z = ("lamp", "z")
        self.assert_watcher(("and", A, ("or", B, C)))
        self.assert_watcher(("and", ("until", A, z), ("or", B, ("and", A, ("or", B, z)))))
        for sentence in [("and", ("or", A, B), ("or", C, D)), ("until", ("and", A, z), ("and", B, C)),
                         ("and", ("and", ("or", A, A), ("or", A, A)), ("or", B, ("or", C, z)))]:
            with self.subTest(repr(sentence)), self.assertRaises(TooMuch):
                watcher(sentence)

    def test_told_is_the_askers_own(self):
        for sentence in [YES, NO, A, ("until", A, B), ("and", ("again", A), ("next", C))]:
            self.assert_own(watcher, sentence)


if __name__ == "__main__":
    unittest.main()
