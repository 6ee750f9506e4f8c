import random
import unittest

from helper import (A, B, C, NO, NO_SENTENCES, OTHER_KINDS, YES, Case, all_sentences, book_for, drawn_run,
                    drawn_sentences, layers, lists_in, says_along, spoil, truths)

from lassoscribe.errors import NoMoment, NoSentence, TooMuch
from lassoscribe.frees import claims_told
from lassoscribe.watch import Watch

D = ("lamp", "d")
NO_MOMENTS = OTHER_KINDS + ["A", "ba", "aa", "-", " ", "a ", " a", "a b", "0", "aB", "ab/", "a" * 8000]
MOMENTS = ["", "a", "b", "ab", "c", "abc", "bz", "xy"]


def backs_of(book, signs):
    """Backs as point 29 tells them: looks made backwards from each of all claims."""
    found = []
    for claims in book.claims if signs else []:
        for sign in reversed(signs):
            truth = book.says(sign, claims)
            claims = book.look(sign, claims)[1]
        found.append(truth)
    return found


def within_bounds(sentence):
    book = book_for(sentence)
    return len(book.waits) <= 5 and len(book.lamps) <= 3


class WatchCase(Case):
    def assert_going(self, book, sentence, signs, going, truth, is_there):
        if not is_there:
            self.assertIsNone(going)
            return
        self.assert_plain_run(going, book.lamps, len(book.claims), len(book.claims) * (len(book.hopes) + 1))
        self.assertIs(truths(sentence, (signs + going[0], going[1]))[0], truth)

    def assert_now(self, watch, book, sentence, signs, said):
        """All that a watch tells behind these signs, where it said this."""
        self.assertEqual(watch.says(), said)
        self.assertIn(said, ["yes", "no", "open"])
        goings = watch.goings()
        self.assertTrue(type(goings) is tuple and len(goings) == 2)
        self.assert_going(book, sentence, signs, goings[0], True, said != "no")
        self.assert_going(book, sentence, signs, goings[1], False, said != "yes")
        self.assert_same(watch.backs(), backs_of(book, signs))
        self.assert_same(watch.seen(), signs)
        self.assert_lists_apart((goings, watch.backs(), watch.seen(), watch.goings()))

    def assert_watched(self, sentence, signs):
        book, watch, told = book_for(sentence), Watch(sentence), []
        self.assert_now(watch, book, sentence, [], watch.says())
        told.append(watch.says())
        for many in range(1, len(signs) + 1):
            said = watch.see(signs[many - 1])
            self.assert_now(watch, book, sentence, signs[:many], said)
            if told[-1] != "open":
                self.assertEqual(said, told[-1])
            told.append(said)
        return told


class SaysTest(WatchCase):
    def test_read_off(self):
        for sentence, signs, expected in [
            (YES, ["", "a"], "yes yes yes"), (NO, ["", "a"], "no no no"), (A, ["a", "", "b"], "open yes yes yes"),
            (A, ["b", "a"], "open no no"), (("not", A), ["", "a"], "open yes yes"), (("not", A), ["ab"], "open no"),
            (("always", A), ["a", "ab", "a", "b", "a"], "open open open open no no"),
            (("atlast", A), ["", "b", "a", ""], "open open open yes yes"),
            (("until", A, B), ["a", "a", "b", ""], "open open open yes yes"),
            (("until", A, B), ["a", "", "b"], "open open no no"), (("until", A, B), ["b"], "open yes"),
            (("until", A, B), ["c"], "open no"),
            (("frees", A, B), ["b", "b", "ab", ""], "open open open yes yes"),
            (("frees", A, B), ["b", "a"], "open open no"), (("frees", A, B), ["b", ""], "open open no"),
            (("frees", A, B), ["a"], "open no"), (("frees", A, B), ["ab"], "open yes"),
            (("next", A), ["a", "a"], "open open yes"), (("next", A), ["a", "", "a"], "open open no no"),
            (layers("next", 4, A), ["a", "", "", "a", "a"], "open open open open open yes"),
            (layers("next", 5, A), ["a"] * 5 + [""], "open open open open open open no"),
            (("again", A), ["a", "a", "", "", "b", "a"], "open " * 6 + "open"),
            (("settles", A), ["a", "a", "", "", "b", "a"], "open " * 6 + "open"),
            (("and", ("always", A), ("again", B)), ["a", "ab", ""], "open open open no"),
            (("or", ("atlast", A), ("settles", B)), ["", "b", "a"], "open open open yes"),
            (("or", ("always", A), layers("next", 2, B)), ["a", "", "b"], "open open open yes"),
            (("or", ("always", A), layers("next", 2, B)), ["a", "", "a"], "open open open no"),
        ]:
            with self.subTest(sentence=repr(sentence), signs=signs):
                self.assertEqual(self.assert_watched(sentence, signs), expected.split())

    def test_said_at_the_first_sign_behind_which_all_agree(self):
        # Nothing of what decides has been seen yet, but what is left to come can't change it any more.
        never = ("and", ("next", B), ("next", ("not", B)))
        surely = ("or", ("again", B), ("settles", ("not", B)))
        for sentence, signs, expected in [
            (("or", A, ("not", A)), [], "yes"), (("and", A, ("not", A)), [], "no"), (surely, [], "yes"),
            (("next", never), [], "no"), (("until", A, NO), [], "no"), (("frees", NO, surely), [], "yes"),
            (("then", A, never), ["a"], "open no"), (("then", A, never), ["b"], "open yes"),
            (("and", A, surely), ["a"], "open yes"), (("always", ("then", A, never)), ["", "b", "a"], "open open open no"),
            (("atlast", ("and", A, surely)), ["", "b", "a"], "open open open yes"),
            (("and", ("again", A), ("settles", ("not", A))), ["a", ""], "no no no"),
            (("until", A, ("and", B, ("next", NO))), ["a"], "no no"),
            (("then", ("next", A), ("next", ("or", A, B))), ["a"], "yes yes"),
        ]:
            with self.subTest(sentence=repr(sentence), signs=signs):
                self.assertEqual(self.assert_watched(sentence, signs), expected.split())

    def test_small_sentences(self):
        source = random.Random(300)
        for sentence in all_sentences(3, [YES, NO, A, B]):
            self.assert_watched(sentence, [source.choice(["", "a", "b", "ab", "c"]) for _ in range(3)])

    def test_drawn_sentences(self):
        source = random.Random(301)
        found = {"yes": 0, "no": 0, "open": 0}
        for sentence in drawn_sentences(302, 1500, range(3, 25)):
            if within_bounds(sentence):
                for _ in range(2):
                    told = self.assert_watched(sentence, [source.choice(MOMENTS) for _ in range(source.randint(1, 5))])
                    found[told[-1]] += told[0] == "open"
        self.assertGreater(min(found.values()), 40)

    def test_no_just_where_no_claims_with_true_have_a_run(self):
        source = random.Random(303)
        for sentence in drawn_sentences(304, 300, range(3, 25)):
            if within_bounds(sentence):
                book, watch, signs = book_for(sentence), Watch(sentence), []
                free = [told[0] == "run" for told in claims_told(book.rows)]
                for _ in range(4):
                    signs.append(source.choice(MOMENTS))
                    said = watch.see(signs[-1])
                    left = {truth for truth, has_run in zip(backs_of(book, signs), free) if has_run}
                    self.assertEqual(said, {(True,): "yes", (False,): "no"}.get(tuple(left), "open"))

    def test_as_soon_as_yes_true_on_all_as_soon_as_no_on_none(self):
        source = random.Random(305)
        found = {"yes": 0, "no": 0}
        for sentence in drawn_sentences(306, 300, range(3, 20)):
            if within_bounds(sentence):
                watch, signs = Watch(sentence), []
                while watch.says() == "open" and len(signs) < 5:
                    signs.append(source.choice(MOMENTS))
                    watch.see(signs[-1])
                if watch.says() != "open":
                    found[watch.says()] += 1
                    for _ in range(6):
                        stem, ring = drawn_run(source, MOMENTS, 3, 3)
                        self.assertIs(truths(sentence, (signs + stem, ring))[0], watch.says() == "yes")
        self.assertGreater(min(found.values()), 40)

    def test_open_as_long_as_two_runs_go_on_either_way(self):
        # Along a run, the answers are those of any run that begins so.
        for sentence, run, expected in [
            (("always", ("then", A, ("next", B))), (["", "a"], ["b"]), "open " * 9),
            (("always", ("then", A, ("next", B))), (["a", "b", "a"], [""]), "open open open open no no no no no"),
            (("always", ("then", A, ("atlast", B))), ([], ["a"]), "open " * 9),
            (("atlast", ("and", A, ("next", B))), (["a", "", "a"], ["b"]), "open open open open yes yes yes yes yes"),
        ]:
            signs = (run[0] + run[1] * 8)[:8]
            self.assertEqual(self.assert_watched(sentence, signs), expected.split())

    def test_hundreds_of_signs(self):
        source = random.Random(307)
        signs = [source.choice(MOMENTS) for _ in range(600)]
        for sentence, said in [
            (("then", ("and", ("again", A), ("again", B)), ("always", ("then", A, ("atlast", B)))), "yes"),
            (("and", ("and", ("settles", A), ("again", B)), ("atlast", ("not", A))), "open"),
            (("and", ("settles", ("again", A)), ("settles", ("not", A))), "no"),
        ]:
            self.assertEqual(set(says_along(Watch(sentence), [""] + signs)[1:]), {said})
        for sentence in [("always", ("or", A, ("next", A))), ("atlast", ("and", A, ("next", ("and", A, B)))),
                         ("and", layers("again", 2, A), ("next", B)), ("until", ("not", C), ("and", A, ("next", B)))]:
            book, watch, seen = book_for(sentence), Watch(sentence), []
            for sign in ["a"] * 300 + ["a", ""] * 150 + ["", ""] + ["b"] * 20:
                watch.see(sign)
                seen.append(sign)
                if len(seen) % 97 == 0:
                    self.assert_now(watch, book, sentence, seen, watch.says())

    def test_ten_thousand_signs(self):
        watch = Watch(("or", layers("settles", 2, A), ("always", ("and", B, C))))
        for number in range(10000):
            watch.see(MOMENTS[number % len(MOMENTS)])
        self.assertEqual(watch.seen(), MOMENTS * 1250)
        self.assertEqual(watch.says(), "open")


class WatchTest(WatchCase):
    def test_ahead_of_the_first_sign(self):
        for sentence, said in [(YES, "yes"), (NO, "no"), (("until", A, B), "open")]:
            watch = Watch(sentence)
            self.assert_same(watch.backs(), [])
            self.assert_same(watch.seen(), [])
            self.assertEqual(watch.says(), said)

    def test_backs_by_hand(self):
        watch = Watch(("until", A, B))
        for sign, expected in [("a", [False, True]), ("a", [False, True]), ("", [False, False]), ("b", [False, False])]:
            watch.see(sign)
            self.assert_same(watch.backs(), expected)
        watch = Watch(("next", A))
        for sign, expected in [("", [False, True]), ("a", [True, True]), ("", [True, True])]:
            watch.see(sign)
            self.assert_same(watch.backs(), expected)
        watch = Watch(A)
        self.assertEqual((watch.see("a"), watch.backs()), ("yes", [True]))

    def test_lamps_that_the_sentence_has_not(self):
        one, other = Watch(("until", A, B)), Watch(("until", A, B))
        for sign, dimmed in [("acz", "a"), ("az", "a"), ("c", ""), ("bxyz", "b")]:
            self.assertEqual(one.see(sign), other.see(dimmed))
            self.assertEqual(one.backs(), other.backs())
        self.assert_same(one.seen(), ["acz", "az", "c", "bxyz"])
        self.assert_same(other.seen(), ["a", "a", "", "b"])

    def test_what_is_no_moment_is_refused_and_changes_nothing(self):
        for sentence in [("until", A, B), ("always", A), YES]:
            for before in [[], ["a"], ["a", "az"]]:
                watch = Watch(sentence)
                for sign in before:
                    watch.see(sign)
                kept = (watch.says(), watch.goings(), watch.backs(), watch.seen())
                for thing in NO_MOMENTS:
                    with self.subTest(repr(thing)[:60]):
                        told = repr(thing)
                        with self.assertRaises(NoMoment):
                            watch.see(thing)
                        self.assertTrue(repr(thing) == told)
                        self.assert_same((watch.says(), watch.goings(), watch.backs(), watch.seen()), kept)
                watch.see("b")
                self.assert_same(watch.seen(), before + ["b"])

    def test_two_watches_of_one_sentence(self):
        one, other = Watch(("until", A, B)), Watch(("until", A, B))
        self.assertEqual(one.see("b"), "yes")
        self.assertEqual((other.says(), other.seen(), other.backs()), ("open", [], []))
        self.assertEqual(other.see(""), "no")
        self.assertEqual((one.says(), one.seen()), ("yes", ["b"]))

    def test_asking_changes_nothing(self):
        watch = Watch(("then", A, ("next", B)))
        for sign in ["a", "b"]:
            for _ in range(3):
                self.assertEqual(watch.says(), "open")
                watch.goings(), watch.backs(), watch.seen()
            watch.see(sign)
        self.assertEqual(watch.says(), "yes")

    def test_told_is_the_askers_own(self):
        for sentence in [YES, NO, A, ("until", A, B), ("and", ("again", A), ("next", B))]:
            watch, calm = Watch(sentence), Watch(sentence)
            for sign in ["a", "ab", "a", "", "b"]:
                for told in [watch.goings(), watch.backs(), watch.seen()]:
                    kept = repr(told)
                    spoil(told)
                    self.assertTrue(repr(told) != kept or not lists_in(told))
                self.assert_same((watch.says(), watch.goings(), watch.backs(), watch.seen()),
                                 (calm.says(), calm.goings(), calm.backs(), calm.seen()))
                earlier = watch.goings(), watch.backs(), watch.seen()
                kept = repr(earlier)
                self.assertEqual(watch.see(sign), calm.see(sign))
                self.assertEqual(repr(earlier), kept)

    def test_what_is_no_sentence(self):
        for thing in NO_SENTENCES:
            with self.subTest(repr(thing)[:60]), self.assertRaises(NoSentence):
                Watch(thing)

    def test_five_waits_and_six(self):
        for five, six in [
            (layers("next", 5, A), layers("next", 6, A)), (("and", layers("again", 2, A), ("next", B)), layers("again", 3, A)),
            (("and", layers("next", 5, A), layers("next", 5, A)), ("and", layers("next", 5, A), ("next", B))),
        ]:
            self.assert_watched(five, ["a", "b"])
            with self.assertRaises(TooMuch):
                Watch(six)
        with self.assertRaises(NoSentence):
            Watch(layers("next", 24, A))

    def test_three_lamps_and_four(self):
        self.assertEqual(self.assert_watched(("and", A, ("and", B, C)), ["abc"]), ["open", "yes"])
        for sentence in [("and", ("or", A, B), ("or", C, D)), ("until", ("and", A, ("lamp", "z")), ("and", B, C))]:
            with self.assertRaises(TooMuch):
                Watch(sentence)
        with self.assertRaises(NoSentence):
            Watch(("and", ("or", A, B), ("or", ("or", C, D), ("lamp", "E"))))


if __name__ == "__main__":
    unittest.main()
