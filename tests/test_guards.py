import random
import unittest

from helper import (A, B, C, NO, NO_SENTENCES, YES, Case, all_sentences, book_for, drawn_run, drawn_sentences,
                    is_paper_over, layers, small_runs, truths)

from lassoscribe.errors import NoSentence, TooMuch
from lassoscribe.frees import claims_told
from lassoscribe.guards import closing, guard
from lassoscribe.watch import Watch
from lassoscribe.watchers import takes, watcher

D = ("lamp", "d")
MOMENTS = ["", "a", "b", "ab", "c", "abc", "bz"]
GUARDS = [
    YES, NO, A, ("not", A), ("next", A), layers("next", 4, A), ("always", A), ("frees", A, B), ("or", A, ("next", B)),
    ("always", ("then", A, ("next", B))), ("always", ("then", A, ("not", B))), ("and", ("always", A), ("next", B)),
    ("not", ("until", A, B)), ("not", ("atlast", A)), ("frees", B, ("or", A, B)), ("and", ("again", A), ("settles", ("not", A))),
    ("or", ("again", A), ("settles", ("not", A))), ("then", A, ("always", ("not", B))), ("next", ("always", ("or", A, B))),
    ("or", ("always", A), ("always", B)),
]
LOOSE = [
    ("atlast", A), ("until", A, B), ("again", A), ("settles", A), ("not", ("always", A)), ("not", ("frees", A, B)),
    ("always", ("then", A, ("atlast", B))), ("and", ("always", A), ("again", B)), ("next", ("atlast", A)), ("then", A, ("atlast", B)),
    ("or", ("always", A), ("atlast", B)), ("and", ("again", A), ("again", ("not", A))),
    ("frees", A, ("atlast", B)), ("and", A, ("until", A, B)),
]


def within_bounds(sentence):
    book = book_for(sentence)
    return len(book.waits) <= 4 and len(book.lamps) <= 3


def first_no(sentence, run):
    """How many moments of a run a watch has seen when it first says no; None where it never does. What a watch
    says hangs on its backs alone, so it is gone on until place and backs come again."""
    watch, been, many = Watch(sentence), set(), 0
    stem, ring = run
    while watch.says() != "no":
        place = many if many < len(stem) else len(stem) + (many - len(stem)) % len(ring)
        if (place, tuple(watch.backs())) in been:
            return None
        been.add((place, tuple(watch.backs())))
        watch.see((stem + ring)[place])
        many += 1
    return many


class GuardCase(Case):
    def assert_paper(self, book, free, paper):
        self.assertIs(type(paper), list)
        kept = {}
        for part in paper:
            self.assertTrue(type(part) is tuple and len(part) == 4)
            for claims in part[:2]:
                self.assertTrue(type(claims) is tuple and [type(claim) for claim in claims] == [bool] * len(book.waits))
            self.assert_rank_and_lack(part[2], part[3])
            self.assertIn(part[1], free)
            self.assertNotIn(part[:2], kept)
            kept[part[:2]] = part[2:]
        begun, steps = [], []
        for moment in book.moments:
            for one in book.claims:
                for other in free:
                    if not book.says(moment, one) and book.says(moment, other):
                        begun.append((one, other))
                    begin = (book.look(moment, one)[1], book.look(moment, other)[1])
                    steps.append((begin, (one, other), book.look(moment, one)[2]))
        self.assertTrue(is_paper_over(kept, begun, steps, len(book.hopes)))

    def assert_loose(self, book, free, sentence, run, chain):
        count = len(book.claims)
        self.assert_plain_run(run, book.lamps, count * count, count * count * (len(book.hopes) + 1))
        self.assertFalse(truths(sentence, run)[0])
        shown = run[0] + run[1]
        self.assertTrue(type(chain) is list and len(chain) == len(shown))
        for claims in chain:
            self.assertTrue(type(claims) is tuple and [type(claim) for claim in claims] == [bool] * len(book.waits))
            self.assertIn(claims, free)
        self.assertTrue(book.says(shown[0], chain[0]))
        for place in range(len(shown)):
            following = place + 1 if place + 1 < len(shown) else len(run[0])
            self.assertEqual(chain[place], book.look(shown[following], chain[following])[1])
        self.assertIsNone(first_no(sentence, run))

    def assert_guard(self, sentence, expected=None):
        book, told = book_for(sentence), self.ask(guard, sentence)
        free = [claims for claims, part in zip(book.claims, claims_told(book.rows)) if part[0] == "run"]
        self.assertIs(type(told), tuple)
        if told[0] == "guard":
            self.assertEqual(len(told), 2)
            self.assert_paper(book, free, told[1])
        else:
            self.assertEqual((told[0], len(told)), ("loose", 3))
            self.assert_loose(book, free, sentence, told[1], told[2])
        self.assert_lists_apart(told)
        if expected is not None:
            self.assertEqual(told[0], expected)
        return told[0]


class GuardTest(GuardCase):
    def test_guards(self):
        for sentence in GUARDS:
            with self.subTest(repr(sentence)):
                self.assert_guard(sentence, "guard")

    def test_loose_ones(self):
        for sentence in LOOSE:
            with self.subTest(repr(sentence)):
                self.assert_guard(sentence, "loose")

    def test_by_hand(self):
        self.assert_told(("guard", []), guard, YES)
        self.assert_told(("guard", []), guard, NO)
        # At no one moment is a lamp lit and dark.
        self.assert_told(("guard", []), guard, A)
        word, run, chain = guard(("atlast", A))
        self.assertEqual((word, set(run[0] + run[1]), set(chain)), ("loose", {""}, {(True,)}))

    def test_small_sentences(self):
        found = {"guard": 0, "loose": 0}
        for sentence in all_sentences(3, [YES, NO, A, B]):
            if within_bounds(sentence):
                found[self.assert_guard(sentence)] += 1
        self.assertGreater(min(found.values()), 40)

    def test_drawn_sentences(self):
        found = {"guard": 0, "loose": 0}
        for sentence in drawn_sentences(310, 2000, range(4, 25)):
            if within_bounds(sentence):
                found[self.assert_guard(sentence)] += 1
        self.assertGreater(min(found.values()), 40)

    def test_of_a_guard_that_is_false_a_watch_says_no_in_time(self):
        source = random.Random(311)
        found = 0
        sentences = GUARDS + [sentence for sentence in drawn_sentences(312, 250, range(3, 20)) if within_bounds(sentence)]
        for sentence in sentences:
            is_guard, count = guard(sentence)[0] == "guard", len(book_for(sentence).claims)
            for run in small_runs(["", "a"], 1, 2) + [drawn_run(source, MOMENTS, 4, 4) for _ in range(4)]:
                said = first_no(sentence, run)
                if truths(sentence, run)[0]:
                    self.assertIsNone(said)
                elif is_guard:
                    found += 1
                    self.assertIsNotNone(said)
                    self.assertLessEqual(said, len(run[0]) + count * len(run[1]))
        self.assertGreater(found, 300)

    def test_the_greatest(self):
        four = [("and", layers("again", 2, A), ("or", B, C)), layers("next", 4, ("and", A, ("or", B, C))),
                ("and", ("until", A, B), ("and", ("until", B, C), ("and", ("until", C, A), ("next", A)))),
                ("or", ("frees", A, B), ("or", ("frees", B, C), ("or", ("frees", C, A), ("always", A))))]
        for sentence in four:
            book = book_for(sentence)
            self.assertEqual((len(book.waits), len(book.lamps)), (4, 3))
            self.assert_guard(sentence)
            self.assert_guard(("not", sentence))

    def test_told_is_the_askers_own(self):
        for sentence in [("always", A), ("atlast", A), ("until", A, B), ("frees", A, B), YES]:
            self.assert_own(guard, sentence)


class ClosingTest(GuardCase):
    def assert_closing(self, sentence):
        book = book_for(sentence)
        free = [part[0] == "run" for part in claims_told(book.rows)]
        rows = []
        for moment in book.moments:
            for number, claims in enumerate(book.claims):
                if free[number]:
                    view, begin, eased = book.look(moment, claims)
                    if view[book.spots[0]]:
                        rows.append((0, moment, 1 + number, ()))
                    rows.append((1 + book.claims.index(begin), moment, 1 + number, ()))
        self.assert_told((book.lamps, 1 + len(book.claims), rows, 0), closing, sentence)
        kept = [row[:3] + ((),) for row in watcher(sentence)[2] if free[row[2] - 1]]
        self.assert_same(closing(sentence)[2], kept)

    def test_by_hand(self):
        self.assert_told(("", 2, [(0, "", 1, ()), (1, "", 1, ())], 0), closing, YES)
        self.assert_told(("", 2, [(1, "", 1, ())], 0), closing, NO)
        self.assert_told(("a", 3, [(1, "", 1, ()), (0, "", 2, ()), (2, "", 2, ()), (0, "a", 1, ()), (2, "a", 1, ()),
                                   (0, "a", 2, ()), (2, "a", 2, ())], 0), closing, ("atlast", A))
        # No run bears out that no is claimed of the next place.
        self.assert_told(("", 3, [(1, "", 1, ())], 0), closing, ("next", NO))

    def test_row_by_row(self):
        sentences = GUARDS + LOOSE + all_sentences(3, [YES, NO, A, B]) + drawn_sentences(320, 400, range(4, 25))
        for sentence in sentences:
            if within_bounds(sentence):
                self.assert_closing(sentence)

    def test_it_takes_just_the_runs_on_which_a_watch_never_says_no(self):
        source = random.Random(321)
        found = {"taken": 0, "left": 0}
        drawn = [sentence for sentence in drawn_sentences(322, 200, range(3, 20)) if within_bounds(sentence)]
        for sentence in GUARDS + LOOSE + drawn:
            seer = closing(sentence)
            for run in small_runs(["", "a"], 1, 2) + [drawn_run(source, MOMENTS, 3, 4) for _ in range(4)]:
                told = takes(seer, run)[0]
                self.assertEqual(told, "left" if first_no(sentence, run) is not None else "taken")
                found[told] += 1
                # A guard's closing takes no run on which it is false.
                if sentence in GUARDS:
                    self.assertEqual(told == "taken", truths(sentence, run)[0])
        self.assertGreater(min(found.values()), 300)

    def test_it_takes_the_run_of_a_loose_one(self):
        for sentence in LOOSE:
            self.assertEqual(takes(closing(sentence), guard(sentence)[1])[0], "taken")
            self.assertEqual(takes(watcher(sentence), guard(sentence)[1])[0], "left")

    def test_told_is_the_askers_own(self):
        for sentence in [YES, ("until", A, B), ("next", NO)]:
            self.assert_own(closing, sentence)


class RefusalsTest(GuardCase):
    def test_what_is_no_sentence(self):
        for thing in NO_SENTENCES + [layers("next", 24, A)]:
            for function in [guard, closing]:
                with self.subTest(repr(thing)[:60]), self.assertRaises(NoSentence):
                    function(thing)

    def test_four_waits_and_five(self):
        for four, five in [
            (layers("next", 4, A), layers("next", 5, A)), (layers("again", 2, A), ("and", layers("again", 2, A), ("next", B))),
            (("and", layers("next", 4, A), layers("next", 4, A)), ("and", layers("next", 4, A), ("next", B))),
            (("or", ("settles", A), ("settles", B)), ("or", ("settles", A), ("or", ("settles", B), ("always", C)))),
        ]:
            self.assertEqual((len(book_for(four).waits), len(book_for(five).waits)), (4, 5))
            self.assert_guard(four)
            self.assertEqual(closing(four)[1], 17)
            for function in [guard, closing]:
                with self.assertRaises(TooMuch):
                    function(five)

    def test_three_lamps_and_four(self):
        self.assert_guard(("or", A, ("and", B, C)), "guard")
        self.assertEqual(closing(("or", A, ("and", B, C)))[0], "abc")
        for sentence in [("and", ("or", A, B), ("or", C, D)), ("until", ("and", A, ("lamp", "z")), ("and", B, C))]:
            for function in [guard, closing]:
                with self.assertRaises(TooMuch):
                    function(sentence)


if __name__ == "__main__":
    unittest.main()
