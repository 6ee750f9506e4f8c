import itertools
import random
import unittest

from helper import (A, B, C, NO, NO_SENTENCES, OTHER_KINDS, PLAIN_WORDS, WORDS, YES, Case, all_sentences, drawn_book,
                    drawn_run, drawn_sentence, drawn_sentences, layers, parts, sentence_of_row, show, small_runs, truths)

from lassoscribe.books import book_of, hopes
from lassoscribe.errors import NoRun, NoSentence
from lassoscribe.looks import claims_of, eased, look
from lassoscribe.plains import plain
from lassoscribe.readings import is_reading, places_true, reading, true_on
from lassoscribe.runs import ahead, fold, rest, thinned

T, F = True, False
MOMENTS = ["", "a", "b", "ab", "ac", "abc", "c", "xyz"]
NO_RUNS = OTHER_KINDS + [
    "", "/ a", ([], []), (["a"], []), ([], ["ba"]), (["A"], ["a"]), ([], ["a"], []), (["a"],), [[], ["a"]],
    ((), ["a"]), ([], ("a",)), ([], "a"), (None, ["a"]), ([], [None]), (["a"] * 3001, ["a"]), ([], ["a"] * 3001),
    (["a"] * 2999 + ["aa"], ["a"]), ([], ["a"] * 2999 + [0]), {0: [], 1: ["a"]},
]


class PlacesTrueTest(Case):
    def assert_read(self, sentence, run):
        expected = truths(sentence, run)
        self.assert_told(expected, places_true, sentence, run)
        self.assert_told(expected[0], true_on, sentence, run)

    def test_each_word_by_hand(self):
        run = (["a", "b"], ["", "ab", "c"])
        for sentence, expected in [
            (YES, "11111"), (NO, "00000"), (A, "10010"), (("not", A), "01101"), (("and", A, B), "00010"),
            (("or", A, B), "11010"), (("then", A, B), "01111"), (("next", A), "00100"), (("next", C), "00010"),
            (("next", ("not", C)), "11101"), (("atlast", A), "11111"), (("always", ("not", ("and", A, C))), "11111"),
            (("always", ("or", A, B)), "00000"), (("again", C), "11111"), (("again", ("and", B, ("not", A))), "00000"),
            (("settles", ("not", C)), "00000"), (("settles", ("or", C, ("not", C))), "11111"),
            (("until", ("or", A, B), C), "00011"), (("until", ("not", C), A), "11110"), (("until", A, B), "11010"),
            (("frees", C, ("or", A, B)), "00000"), (("frees", A, ("not", C)), "11110"), (("frees", C, ("not", A)), "00001"),
            (("frees", NO, ("not", ("and", A, C))), "11111"), (("atlast", ("and", B, ("not", A))), "11000"),
            (("always", ("then", B, A)), "00111"), (("settles", ("then", B, A)), "11111"),
        ]:
            with self.subTest(repr(sentence)):
                self.assert_told([sign == "1" for sign in expected], places_true, sentence, run)
                self.assert_told(expected[0] == "1", true_on, sentence, run)

    def test_small_sentences_on_small_runs(self):
        runs = small_runs(["", "a", "ab"], 1, 2) + [(["a", "b"], ["b", "", "ab"]), (["", "ab", "a"], ["b"]),
                                                    ([], ["b", "a", "a", ""])]
        for sentence in all_sentences(3, [YES, NO, A, B]):
            for run in runs:
                self.assert_read(sentence, run)

    def test_until_and_frees_on_all_runs_of_some_size(self):
        # What the ring's last places say hangs on its first ones, in ways that drawn runs seldom show.
        dark = ("not", ("or", A, B))
        for run in small_runs(["", "a", "b"], 1, 4) + small_runs(["", "a", "b"], 2, 3):
            for sentence in [("until", A, B), ("frees", A, B), ("frees", B, ("or", A, B)), ("until", dark, A)]:
                self.assert_read(sentence, run)

    def test_drawn_sentences_on_drawn_runs(self):
        source = random.Random(91)
        for size in list(range(4, 25)) * 20:
            sentence = drawn_sentence(source, size)
            self.assert_read(sentence, drawn_run(source, MOMENTS, 4, 5))
            self.assert_read(sentence, ([], [source.choice(MOMENTS) for _ in range(source.randint(1, 6))]))

    def test_the_same_run_told_longer(self):
        source = random.Random(92)
        for sentence in drawn_sentences(93, 120, range(1, 25)):
            stem, ring = run = drawn_run(source, MOMENTS, 3, 4)
            once = places_true(sentence, run)
            for begun, times in [(0, 2), (1, 1), (2, 3), (5, 2)]:
                longer = (stem + show(([], ring), begun), rest(([], ring), begun)[1] * times)
                count = len(longer[0]) + len(longer[1])
                self.assert_told([once[fold(run, place)] for place in range(count)], places_true, sentence, longer)

    def test_with_signs_ahead(self):
        source = random.Random(94)
        for sentence in drawn_sentences(95, 120, range(1, 25)):
            run = drawn_run(source, MOMENTS, 3, 4)
            signs = [source.choice(MOMENTS) for _ in range(source.randint(1, 4))]
            self.assert_same(self.ask(places_true, sentence, ahead(signs, run))[len(signs):], places_true(sentence, run))

    def test_begun_at_a_later_place(self):
        source = random.Random(96)
        for sentence in drawn_sentences(97, 120, range(1, 25)):
            run = drawn_run(source, MOMENTS, 3, 4)
            once = places_true(sentence, run)
            for place in list(range(10)) + [10 ** 59]:
                self.assert_told(once[fold(run, place)], true_on, sentence, rest(run, place))

    def test_a_sentence_of_just_twenty_four_words(self):
        run = (["", "a"], ["ab", "b", ""])
        for sentence in drawn_sentences(98, 60, [24]) + [layers(word, 23, A) for word in WORDS if WORDS[word] == 1]:
            self.assertEqual(len(parts(sentence)), 24)
            self.assert_read(sentence, run)

    def test_told_is_the_askers_own(self):
        for sentence in [YES, A, ("not", A), ("next", A), ("until", A, B), ("or", A, B), ("again", A)]:
            self.assert_own(places_true, sentence, (["a", ""], ["b", "ab"]))
            self.assert_own(places_true, sentence, ([], ["b"]))


class LongRunTest(Case):
    """Runs of three thousand moments in the stem and as many in the ring."""

    def assert_marked(self, expected, sentence, run):
        told = self.ask(places_true, sentence, run)
        self.assertEqual(len(told), len(run[0]) + len(run[1]))
        self.assert_same([place for place, truth in enumerate(told) if truth], list(expected))
        self.assert_told(0 in list(expected)[:1], true_on, sentence, run)

    def test_a_lamp_lit_at_the_last_place_alone(self):
        run = ([""] * 3000, [""] * 2999 + ["a"])
        every, none, last = range(6000), [], [5999]
        dark = ("not", A)
        for sentence, expected in [
            (YES, every), (NO, none), (A, last), (dark, range(5999)), (("next", A), [5998]), (("atlast", A), every),
            (("always", A), none), (("always", dark), none), (("again", A), every), (("settles", A), none),
            (("settles", dark), none), (("and", A, dark), none), (("or", A, dark), every), (("then", A, dark), range(5999)),
            (("until", dark, A), every), (("until", A, dark), every), (("until", A, NO), none),
            (("frees", A, dark), none), (("frees", A, A), last), (("frees", NO, YES), every),
            (("frees", dark, ("or", A, dark)), every), (layers("next", 23, A), [5976]),
        ]:
            with self.subTest(repr(sentence)[:60]):
                self.assert_marked(expected, sentence, run)

    def test_a_lamp_lit_in_the_stem_alone(self):
        run = ([""] * 1500 + ["a"] + [""] * 1499, [""] * 3000)
        upto, behind = range(1501), range(1501, 6000)
        for sentence, expected in [
            (("atlast", A), upto), (("always", ("not", A)), behind), (("again", A), []), (("settles", ("not", A)), range(6000)),
            (("until", ("not", A), A), upto), (("frees", A, ("not", A)), behind), (("next", A), [1499]),
            (("until", YES, ("and", A, ("next", ("not", A)))), upto), (("then", A, NO), [p for p in range(6000) if p != 1500]),
        ]:
            with self.subTest(repr(sentence)):
                self.assert_marked(expected, sentence, run)

    def test_no_stem_and_one_moment_in_the_ring(self):
        self.assert_marked(range(3000), ("atlast", A), ([], ["a"] + [""] * 2999))
        self.assert_marked([2999], ("next", A), ([], ["a"] + [""] * 2999))
        self.assert_marked(range(2999, 3001), ("always", A), (["a", ""] * 1499 + ["", "a"], ["a"]))

    def test_the_same_as_the_run_told_shortly(self):
        source = random.Random(99)
        for sentence in drawn_sentences(100, 12, [8, 16, 24]):
            run = drawn_run(source, MOMENTS, 3, 1) if source.random() < 0.3 else ([], ["a", "", "bc"])
            long_run = (show(run, 3000), rest(run, 3000)[1] * (3000 // len(run[1])))
            short = truths(sentence, run)
            self.assert_told([short[fold(run, place)] for place in range(6000)], places_true, sentence, long_run)


class RefusedTest(Case):
    def assert_refused(self, refusal, sentence, run):
        before = repr((sentence, run))
        for function in [places_true, true_on]:
            with self.assertRaises(refusal):
                function(sentence, run)
        self.assertTrue(repr((sentence, run)) == before)

    def test_no_sentence(self):
        for thing in NO_SENTENCES:
            self.assert_refused(NoSentence, thing, ([], ["a"]))

    def test_no_sentence_deep_within(self):
        for thing in NO_SENTENCES:
            for word, spot in [("not", 1), ("and", 1), ("and", 2), ("frees", 1), ("until", 2), ("settles", 1)]:
                outer = [word] + [A] * WORDS[word]
                outer[spot] = thing
                self.assert_refused(NoSentence, tuple(outer), ([], ["a"]))
                self.assert_refused(NoSentence, layers("always", 11, tuple(outer)), ([], ["a"]))

    def test_twenty_five_words(self):
        self.assert_told(True, true_on, layers("always", 23, A), ([], ["a"]))
        self.assert_refused(NoSentence, layers("always", 24, A), ([], ["a"]))
        twelve = layers("not", 11, A)
        self.assert_refused(NoSentence, ("and", twelve, twelve), ([], ["a"]))

    def test_no_run(self):
        for thing in NO_RUNS:
            for sentence in [YES, A, layers("again", 23, A)]:
                self.assert_refused(NoRun, sentence, thing)

    def test_no_run_deep_within(self):
        for wrong in OTHER_KINDS + ["ba", "aa", "A", "-", " "]:
            for size, spot in [(1, 0), (5, 0), (5, 4), (3000, 1500), (3000, 2999)]:
                part = ["a"] * size
                part[spot] = wrong
                for run in [(part, ["b"]), ([], part)]:
                    with self.assertRaises(NoRun):
                        true_on(A, run)

    def test_no_sentence_goes_first(self):
        for thing in NO_SENTENCES:
            for other in [None, ([], []), "/ a", ([], ["ba"]), A]:
                self.assert_refused(NoSentence, thing, other)


class ReadingTest(Case):
    def assert_reading(self, rows, run, views):
        self.assert_told(views, reading, rows, run)
        self.assert_told(True, is_reading, rows, run, views)

    def test_by_hand(self):
        self.assert_reading([], (["a"], ["b", ""]), [(), (), ()])
        self.assert_reading([YES], ([], [""]), [(T,)])
        self.assert_reading([A], (["a", ""], ["ab"]), [(T,), (F,), (T,)])
        self.assert_reading([A, ("next", 0)], (["a"], ["", "a"]), [(T, F), (F, T), (T, F)])
        self.assert_reading([A, ("next", 0)], ([], ["", "a"]), [(F, T), (T, F)])
        self.assert_reading([A, B, ("until", 0, 1)], (["a", ""], ["a", "a", "b"]),
                            [(T, F, F), (F, F, F), (T, F, T), (T, F, T), (F, T, T)])
        self.assert_reading([YES, A, ("until", 0, 1)], ([], [""]), [(T, F, F)])
        self.assert_reading([YES, A, ("until", 0, 1)], (["", "a"], ["", ""]), [(T, F, T), (T, T, T), (T, F, F), (T, F, F)])

    def test_the_truths_of_each_rows_sentence(self):
        source = random.Random(151)
        for many in list(range(1, 16)) * 12:
            rows = drawn_book(source, many, "ab", 30)
            run = drawn_run(source, ["", "a", "b", "ab"], 3, 4)
            columns = [truths(sentence_of_row(rows, number), run) for number in range(many)]
            self.assert_reading(rows, run, list(zip(*columns, strict=True)))

    def test_until_on_all_runs_of_some_size(self):
        for rows in [[A, B, ("until", 0, 1)], [A, B, ("until", 1, 0), ("until", 0, 2), ("next", 3)]]:
            for run in small_runs(["", "a", "b"], 1, 4) + small_runs(["", "a", "b"], 2, 2):
                columns = [truths(sentence_of_row(rows, number), run) for number in range(len(rows))]
                self.assert_reading(rows, run, list(zip(*columns, strict=True)))

    def test_of_plain_forms(self):
        source = random.Random(152)
        for sentence in drawn_sentences(153, 80, range(1, 25)):
            rows, spots = book_of([plain(sentence)])
            run = drawn_run(source, MOMENTS, 3, 3)
            views = self.ask(reading, rows, run)
            self.assert_same([view[spots[0]] for view in views], truths(sentence, run))
            self.assert_told(True, is_reading, rows, run, views)

    def test_up_to_two_hundred_rows_and_three_thousand_moments(self):
        source = random.Random(154)
        long_run = ([source.choice(MOMENTS) for _ in range(3000)], [source.choice(MOMENTS) for _ in range(3000)])
        short_run = drawn_run(source, MOMENTS, 3, 3)
        deep_rows = book_of([layers("next", 99, A), layers("not", 99, B)])[0]
        for rows in [drawn_book(source, 200), deep_rows]:
            self.assertEqual(len(rows), 200)
            columns = [truths(sentence_of_row(rows, number), short_run) for number in range(200)]
            self.assert_reading(rows, short_run, list(zip(*columns, strict=True)))
            views = self.ask(reading, rows, long_run)
            self.assertEqual(len(views), 6000)
            moments = long_run[0] + long_run[1]
            for place in [0, 1, 1500, 2999, 3000, 4567, 5998, 5999]:
                behind = views[place + 1 if place < 5999 else 3000]
                self.assert_same(views[place], look(rows, moments[place], claims_of(rows, behind)))
            ring_eased = {number for view in views[3000:] for number in eased(rows, view)}
            self.assertEqual(ring_eased, set(range(len(hopes(rows)))))
            self.assert_told(True, is_reading, rows, long_run, views)
            for place, number in [(0, 0), (2999, 199), (3000, 100), (5999, 5)]:
                self.assert_told(False, is_reading, rows, long_run, with_turned(views, place, number))

    def test_told_is_the_askers_own(self):
        for rows in [[], [A], [A, B, ("until", 0, 1), ("next", 2)]]:
            self.assert_own(reading, list(rows), (["a", ""], ["b", "ab"]))
            self.assert_own(reading, list(rows), ([], ["b"]))


def with_turned(views, place, number):
    turned = list(views)
    turned[place] = turned[place][:number] + (not turned[place][number],) + turned[place][number + 1:]
    return turned


class IsReadingTest(Case):
    def setUp(self):
        source = random.Random(155)
        self.told = []
        for many in list(range(1, 13)) * 5:
            rows = drawn_book(source, many, "ab", 40)
            run = drawn_run(source, ["", "a", "b", "ab"], 3, 4)
            self.told.append((rows, run, reading(rows, run)))

    def test_just_one_of_all_lists_fits(self):
        for rows in [[A], [A, ("next", 0)], [YES, A, ("until", 0, 1)], [A, ("until", 0, 0)], [A, B, ("until", 0, 1)],
                     [A, ("not", 0), ("until", 1, 0)]]:
            for run in [([], ["a"]), ([], [""]), ([""], ["a", ""]), (["b"], ["", "a"]), ([], ["a", "a", "b"]),
                        (["a", ""], ["a"]), ([], ["", ""])]:
                all_views = list(itertools.product([F, T], repeat=len(rows)))
                fits = [list(views) for views in itertools.product(all_views, repeat=len(run[0]) + len(run[1]))
                        if is_reading(rows, run, list(views))]
                self.assert_same(fits, [reading(rows, run)])

    def test_with_one_truth_turned(self):
        for rows, run, views in self.told:
            for place, number in itertools.product(range(len(views)), range(len(rows))):
                self.assert_told(False, is_reading, rows, run, with_turned(views, place, number))

    def test_with_a_view_left_out_or_told_twice(self):
        for rows, run, views in self.told:
            for place in range(len(views)):
                self.assert_told(False, is_reading, rows, run, views[:place] + views[place + 1:])
                self.assert_told(False, is_reading, rows, run, views[:place] + views[place:place + 1] + views[place:])
            self.assert_told(False, is_reading, rows, run, views + views[len(run[0]):])
            self.assert_told(False, is_reading, rows, run, [])
            self.assert_told(False, is_reading, rows, run, views * 2)

    def test_with_a_truth_more_or_less(self):
        for rows, run, views in self.told:
            for place in range(len(views)):
                for other in [(), views[place][1:], views[place][:-1], views[place] + (T,), views[place] + (F,),
                              (T,) + views[place], views[place] * 2, views[place] + (T,) * 300]:
                    wrong = views[:place] + [other] + views[place + 1:]
                    self.assert_told(False, is_reading, rows, run, wrong)
            self.assert_told(False, is_reading, rows, run, [view[:-1] for view in views])
            self.assert_told(False, is_reading, rows, run, [view + (T,) for view in views])
            self.assert_told(False, is_reading, rows, run, [() for view in views])

    def test_with_two_exchanged(self):
        seen = 0
        for rows, run, views in self.told:
            for one, other in itertools.combinations(range(len(views)), 2):
                exchanged = list(views)
                exchanged[one], exchanged[other] = views[other], views[one]
                seen += exchanged != views
                self.assert_told(exchanged == views, is_reading, rows, run, exchanged)
        self.assertGreater(seen, 100)

    def test_an_until_taken_for_true_for_ever(self):
        rows = [YES, A, ("until", 0, 1)]
        for stem, ring in [([], [""]), ([], ["", "b"]), (["a"], [""]), (["", "a", "b"], ["", "b", ""])]:
            # Each view is the look with the claims of the one behind; only the hope is not eased on the ring.
            views = [(T, moment == "a", T) for moment in stem + ring]
            self.assert_told(False, is_reading, rows, (stem, ring), views)
            self.assert_told(True, is_reading, rows, (stem, ring), reading(rows, (stem, ring)))
            self.assert_told(True, is_reading, rows, (stem, ring + ["a"]), views + [(T, T, T)])

    def test_one_of_two_hopes_not_eased(self):
        rows = [YES, A, ("until", 0, 1), B, ("until", 0, 3)]
        run = ([], ["b", ""])
        self.assert_told(True, is_reading, rows, run, [(T, F, F, T, T), (T, F, F, F, T)])
        self.assert_told(False, is_reading, rows, run, [(T, F, T, T, T), (T, F, T, F, T)])

    def test_behind_the_rings_last_place_comes_its_first_one(self):
        rows = [A, ("next", 0)]
        self.assert_told(True, is_reading, rows, (["a"], ["", "a", ""]), [(T, F), (F, T), (T, F), (F, F)])
        self.assert_told(False, is_reading, rows, (["a"], ["", "a", ""]), [(T, F), (F, T), (T, F), (F, T)])
        self.assert_told(True, is_reading, rows, ([""], ["a"]), [(F, T), (T, T)])
        self.assert_told(False, is_reading, rows, ([""], ["a"]), [(F, T), (T, F)])

    def test_a_book_without_rows(self):
        run = (["a"], ["", "b"])
        self.assert_told(True, is_reading, [], run, [(), (), ()])
        for views in [[], [()], [(), ()], [()] * 4, [(), (), (T,)], [(F,), (), ()]]:
            self.assert_told(False, is_reading, [], run, views)


class ThinnedTest(Case):
    def slow(self, source, run):
        stem, ring = run
        return ([moment for moment in stem for _ in range(source.randint(1, 3))],
                [moment for moment in ring for _ in range(source.randint(1, 3))])

    def test_without_next(self):
        source = random.Random(161)
        known = [word for word in WORDS if word != "next"]
        some = all_sentences(3, [YES, A, B], known)
        some += [drawn_sentence(source, source.randint(4, 24), "abc", known) for _ in range(300)]
        for sentence in some:
            run = self.slow(source, drawn_run(source, ["", "a", "b", "ab", "c"], 3, 3))
            truth = truths(sentence, run)[0]
            self.assert_told(truth, true_on, sentence, run)
            self.assert_told(truth, true_on, sentence, thinned(run))
            self.assert_told(truth, true_on, sentence, self.slow(source, thinned(run)))

    def test_with_next_it_may_part(self):
        run = (["a", "a"], ["b"])
        self.assert_told(True, true_on, ("next", A), run)
        self.assert_told(False, true_on, ("next", A), thinned(run))

    def test_plain_sentences_without_next(self):
        source = random.Random(162)
        known = [word for word in PLAIN_WORDS if word != "next"]
        for _ in range(200):
            sentence = drawn_sentence(source, source.randint(1, 24), "ab", known)
            run = self.slow(source, drawn_run(source, ["", "a", "b"], 2, 4))
            self.assert_told(true_on(sentence, thinned(run)), true_on, sentence, run)


if __name__ == "__main__":
    unittest.main()
