import random
import unittest

from helper import (A, B, C, NO, NO_SENTENCES, YES, Book, Case, all_sentences, book_for, drawn_book, drawn_run,
                    drawn_sentences, is_paper_over, layers, sentence_of_row, small_runs, truths)

from lassoscribe.errors import NoSentence, TooMuch
from lassoscribe.frees import claims_told, possible, same, within

D = ("lamp", "d")
# One and the same, said in two ways.
ALIKE = [
    (("atlast", A), ("until", YES, A)), (("always", A), ("frees", NO, A)), (("not", ("next", A)), ("next", ("not", A))),
    (("again", A), ("always", ("atlast", A))), (("settles", A), ("atlast", ("always", A))), (("no",), ("and", A, ("not", A))),
    (("until", A, B), ("or", B, ("and", A, ("next", ("until", A, B))))), (("then", A, B), ("or", ("not", A), B)),
    (("frees", A, B), ("and", B, ("or", A, ("next", ("frees", A, B))))), (("again", ("again", A)), ("again", A)),
    (("not", ("until", A, B)), ("frees", ("not", A), ("not", B))), (("settles", ("again", A)), ("again", A)),
    (("next", ("and", A, B)), ("and", ("next", A), ("next", B))), (("again", ("next", A)), ("again", A)),
    (("atlast", ("or", A, B)), ("or", ("atlast", A), ("atlast", B))), (("always", ("then", A, ("next", A))),
                                                                       ("always", ("or", ("not", A), ("always", A)))),
]
# The first within the second, but not the other way round.
NESTED = [
    (A, YES), (NO, A), (("always", A), A), (A, ("atlast", A)), (("again", A), ("atlast", A)), (("settles", A), ("again", A)),
    (("until", A, B), ("atlast", B)), (("and", A, B), ("or", A, B)), (("always", A), ("settles", A)),
    (("always", ("and", A, B)), ("frees", A, B)), (("next", ("next", A)), ("atlast", A)), (("always", A), ("until", A, A)),
]
# Neither is within the other.
APART = [(A, B), (A, ("not", A)), (("next", A), A), (("again", A), ("again", B)), (("settles", A), ("always", B)),
         (("until", A, B), ("until", B, A)), (("frees", B, A), ("until", A, B))]


def within_bounds(*sentences):
    book = book_for(*sentences)
    return len(book.waits) <= 5 and len(book.lamps) <= 3


class FreesCase(Case):
    def assert_run(self, book, run):
        """A told run of 28 with its bounds."""
        self.assert_plain_run(run, book.lamps, len(book.claims), len(book.claims) * (len(book.hopes) + 1))

    def assert_paper(self, book, paper, parted):
        """A told paper of 28, walked over all steps: parted tells which views it has to shut out."""
        self.assertIs(type(paper), list)
        kept = {}
        for part in paper:
            self.assertTrue(type(part) is tuple and len(part) == 3)
            claims, rank, lack = part
            self.assertTrue(type(claims) is tuple and [type(claim) for claim in claims] == [bool] * len(book.waits))
            self.assert_rank_and_lack(rank, lack)
            self.assertNotIn(claims, kept)
            kept[claims] = (rank, lack)
        starts = [claims for moment in book.moments for claims in book.claims
                  if parted(*[book.says(moment, claims, which) for which in range(len(book.spots))])]
        self.assertTrue(is_paper_over(kept, starts, book.steps(), len(book.hopes)))

    def assert_possible(self, sentence, expected=None):
        book, told = book_for(sentence), self.ask(possible, sentence)
        self.assertTrue(type(told) is tuple and len(told) == 2)
        if told[0] == "run":
            self.assert_run(book, told[1])
            self.assertTrue(truths(sentence, told[1])[0])
        else:
            self.assertEqual(told[0], "none")
            self.assert_paper(book, told[1], lambda truth: truth)
        if expected is not None:
            self.assertEqual(told[0], expected)
        return told[0]

    def assert_side_by_side(self, function, one, other, word, parted, expected=None):
        book, told = book_for(one, other), self.ask(function, one, other)
        self.assertTrue(type(told) is tuple and len(told) == 2)
        if told[0] == "parted":
            self.assert_run(book, told[1])
            self.assertTrue(parted(truths(one, told[1])[0], truths(other, told[1])[0]))
        else:
            self.assertEqual(told[0], word)
            self.assert_paper(book, told[1], parted)
        if expected is not None:
            self.assertEqual(told[0], expected)
        return told[0]

    def assert_same_told(self, one, other, expected=None):
        return self.assert_side_by_side(same, one, other, "same", lambda left, right: left != right, expected)

    def assert_within(self, one, other, expected=None):
        return self.assert_side_by_side(within, one, other, "within", lambda left, right: left and not right, expected)


class ClaimsToldTest(FreesCase):
    def assert_told_of_claims(self, rows):
        book, told = Book(rows), self.ask(claims_told, rows)
        self.assertTrue(type(told) is list and len(told) == len(book.claims))
        kept = {}
        for claims, part in zip(book.claims, told):
            self.assertIs(type(part), tuple)
            if part[0] == "run":
                self.assertEqual(len(part), 2)
                self.assert_plain_run(part[1], book.lamps, len(book.claims) - 1,
                                      len(book.claims) * (len(book.hopes) + 1))
                shown = tuple(truths(sentence_of_row(rows, number), part[1])[0] for number in book.waits)
                self.assertEqual(shown, claims)
            else:
                self.assertEqual((part[0], len(part)), ("shut", 3))
                self.assert_rank_and_lack(part[1], part[2])
                kept[claims] = part[1:]
        self.assertTrue(is_paper_over(kept, list(kept), book.steps(), len(book.hopes)))
        self.assert_lists_apart(told)
        return len(kept)

    def test_without_waits(self):
        for rows in [[], [YES], [A], [YES, ("not", 0)], [A, B, ("and", 0, 1)], [A, B, C]]:
            self.assertEqual(self.assert_told_of_claims(rows), 0)
            self.assertEqual(len(claims_told(rows)), 1)
        self.assert_told([("run", ([], [""]))], claims_told, [YES])

    def test_without_lamps(self):
        self.assert_told([("shut", 0, None), ("run", ([], [""]))], claims_told, [YES, ("next", 0)])
        self.assertEqual(self.assert_told_of_claims([YES, ("not", 0), ("next", 1), ("until", 0, 1)]), 3)
        self.assertEqual(self.assert_told_of_claims([YES, ("next", 0), ("next", 1), ("until", 2, 0)]), 7)

    def test_by_hand(self):
        for rows, shut in [
            ([A, ("next", 0)], 0), ([A, B, ("until", 0, 1)], 0), ([YES, A, ("until", 0, 1)], 0),
            # Always atlast A and never A, or A at last and then never atlast: some claims have no run.
            ([YES, A, ("until", 0, 1), ("not", 2), ("until", 0, 3)], 1),
            ([A, ("not", 0), ("next", 0), ("next", 1)], 2), ([A, B, ("until", 0, 1), ("next", 1)], 1),
        ]:
            with self.subTest(repr(rows)):
                self.assertEqual(self.assert_told_of_claims(rows), shut)

    def test_books_of_small_sentences(self):
        for sentence in all_sentences(3, [YES, NO, A, B]):
            self.assert_told_of_claims(book_for(sentence).rows)

    def test_drawn_books(self):
        source = random.Random(270)
        many_waits, many_lamps = set(), set()
        for _ in range(500):
            rows = drawn_book(source, source.randint(1, 11), source.choice(["a", "ab", "abc"]))
            book = Book(rows)
            if len(book.waits) <= 5:
                many_waits.add(len(book.waits))
                many_lamps.add(len(book.lamps))
                self.assert_told_of_claims(rows)
        self.assertEqual((many_waits, many_lamps), (set(range(6)), set(range(4))))

    def test_books_of_drawn_sentences(self):
        shut = 0
        for sentence in drawn_sentences(271, 300, range(4, 25)):
            if within_bounds(sentence):
                shut += self.assert_told_of_claims(book_for(sentence).rows)
        self.assertGreater(shut, 200)

    def test_the_greatest(self):
        # Five untils over three lamps, in a book of two hundred rows.
        rows = [A, B, C, ("until", 0, 1), ("until", 1, 2), ("until", 2, 0), ("until", 3, 4), ("until", 5, 0)]
        rows += [("not", number) for number in range(8)]
        rows += [("and", left, right) for left in range(16) for right in range(16)][:200 - len(rows)]
        self.assertEqual(len(rows), 200)
        self.assert_told_of_claims(rows)
        self.assertEqual(len(claims_told(rows)), 32)
        for sentence in [layers("next", 5, A), ("or", layers("settles", 2, A), ("always", B)),
                         ("and", layers("again", 2, A), ("next", ("or", B, C)))]:
            self.assert_told_of_claims(book_for(sentence).rows)

    def test_told_is_the_askers_own(self):
        for rows in [[A, ("next", 0)], [YES, A, ("until", 0, 1), ("not", 2), ("until", 0, 3)], [YES]]:
            self.assert_own(claims_told, list(rows))


class PossibleTest(FreesCase):
    def test_sentences_that_no_run_fulfils(self):
        for sentence in [NO, ("not", YES), ("and", A, ("not", A)), ("atlast", NO), ("next", NO), ("always", NO),
                         ("and", ("always", A), ("atlast", ("not", A))), ("and", ("again", A), ("settles", ("not", A))),
                         ("and", ("until", A, B), ("always", ("not", B))), ("and", ("next", A), ("next", ("not", A))),
                         ("and", ("settles", A), ("settles", ("not", A))), ("again", ("and", A, ("not", A))),
                         ("and", A, ("and", ("always", ("then", A, ("next", A))), ("atlast", ("not", A)))),
                         ("and", ("frees", NO, A), ("next", ("next", ("not", A)))),
                         ("and", ("until", A, B), ("and", ("not", B), ("next", ("not", ("until", A, B)))))]:
            with self.subTest(repr(sentence)):
                self.assert_possible(sentence, "none")
                if sentence[0] != "not":
                    self.assert_possible(("not", sentence), "run")

    def test_sentences_that_some_run_fulfils(self):
        for sentence in [YES, A, ("not", A), ("next", A), ("and", ("again", A), ("again", ("not", A))),
                         ("and", ("settles", A), ("not", A)), ("until", A, B), ("and", ("not", B), ("until", A, B)),
                         ("and", ("again", ("and", A, B)), ("again", ("and", A, ("not", B)))),
                         ("always", ("and", ("then", A, ("next", ("not", A))), ("then", ("not", A), ("next", A))))]:
            with self.subTest(repr(sentence)):
                self.assert_possible(sentence, "run")

    def test_small_and_drawn_sentences(self):
        found = {"run": 0, "none": 0}
        for sentence in all_sentences(3, [YES, NO, A, B]) + drawn_sentences(280, 500, range(4, 25)):
            if within_bounds(sentence):
                found[self.assert_possible(sentence)] += 1
        self.assertGreater(min(found.values()), 60)

    def test_what_is_true_on_a_run_is_possible(self):
        source = random.Random(281)
        for sentence in drawn_sentences(282, 200, range(2, 22)):
            if within_bounds(sentence):
                truth = truths(sentence, drawn_run(source, ["", "a", "b", "c", "ab", "bc"], 3, 4))[0]
                self.assert_possible(sentence if truth else ("not", sentence), "run")

    def test_told_is_the_askers_own(self):
        for sentence in [YES, NO, ("and", ("again", A), ("settles", ("not", A))), ("until", A, B)]:
            self.assert_own(possible, sentence)
            self.assert_lists_apart(possible(sentence))


class SideBySideTest(FreesCase):
    def test_pairs_that_say_the_same_in_other_words(self):
        for one, other in ALIKE:
            with self.subTest(one=repr(one), other=repr(other)):
                self.assert_same_told(one, other, "same")
                self.assert_same_told(other, one, "same")
                self.assert_within(one, other, "within")
                self.assert_within(other, one, "within")
                self.assert_same_told(one, ("not", other), "parted")

    def test_the_one_within_the_other(self):
        for one, other in NESTED:
            with self.subTest(one=repr(one), other=repr(other)):
                self.assert_within(one, other, "within")
                self.assert_within(other, one, "parted")
                self.assert_same_told(one, other, "parted")
                self.assert_same_told(other, one, "parted")

    def test_neither_within_the_other(self):
        for one, other in APART:
            with self.subTest(one=repr(one), other=repr(other)):
                self.assert_within(one, other, "parted")
                self.assert_within(other, one, "parted")
                self.assert_same_told(one, other, "parted")

    def test_a_sentence_beside_itself(self):
        for sentence in all_sentences(2, [YES, NO, A]) + [("until", A, B), ("frees", B, A)]:
            self.assert_same_told(sentence, sentence, "same")
            self.assert_within(sentence, sentence, "within")

    def test_small_sentences_on_small_runs(self):
        # Where a small run parts two sentences, they are told to be parted.
        runs = small_runs(["", "a", "b"], 1, 2)
        sentences = all_sentences(2, [YES, NO, A, B])
        known = {sentence: [truths(sentence, run)[0] for run in runs] for sentence in sentences}
        for one in sentences:
            for other in sentences:
                if known[one] != known[other]:
                    self.assertEqual(same(one, other)[0], "parted")
                if any(left and not right for left, right in zip(known[one], known[other])):
                    self.assertEqual(within(one, other)[0], "parted")

    def test_drawn_pairs(self):
        found = {"same": 0, "within": 0, "parted": 0}
        sentences = drawn_sentences(290, 900, range(1, 9), "ab")
        for one, other in zip(sentences[::2], sentences[1::2]):
            if within_bounds(one, other):
                told = self.assert_same_told(one, other)
                sides = [self.assert_within(one, other), self.assert_within(other, one)]
                found[told] += 1
                found["within"] += sides.count("within")
                # The same is told just where each is within the other.
                self.assertEqual(told == "same", sides == ["within", "within"])
        self.assertGreater(min(found.values()), 20)

    def test_lamps_of_both(self):
        self.assertEqual(self.assert_same_told(A, ("or", A, ("and", B, C))), "parted")
        self.assert_within(("and", A, ("and", B, C)), ("next", YES), "within")
        self.assert_within(("next", YES), ("and", A, ("and", B, C)), "parted")

    def test_told_is_the_askers_own(self):
        for one, other in [(A, B), (("again", A), ("always", ("atlast", A))), (NO, A), (("settles", A), ("again", A))]:
            self.assert_own(same, one, other)
            self.assert_own(within, one, other)
            self.assert_lists_apart((same(one, other), within(one, other)))


class RefusalsTest(FreesCase):
    def test_what_is_no_sentence(self):
        for thing in NO_SENTENCES:
            with self.subTest(repr(thing)[:60]):
                with self.assertRaises(NoSentence):
                    possible(thing)
                for function in [same, within]:
                    for one, other in [(thing, A), (A, thing), (thing, thing)]:
                        with self.assertRaises(NoSentence):
                            function(one, other)

    def test_no_sentence_of_either_goes_ahead_of_too_much(self):
        much, many = layers("next", 6, A), ("and", ("and", A, B), ("and", C, D))
        for function in [same, within]:
            for thing in [None, ("lamp", "A"), layers("next", 24, A)]:
                for sentence in [much, many]:
                    with self.assertRaises(NoSentence):
                        function(sentence, thing)
                    with self.assertRaises(NoSentence):
                        function(thing, sentence)
        with self.assertRaises(NoSentence):
            possible(layers("next", 24, A))

    def test_five_waits_and_six(self):
        for five, six in [(layers("next", 5, A), layers("next", 6, A)),
                          (("and", layers("again", 2, A), ("next", B)), layers("again", 3, A)),
                          (("or", layers("again", 2, A), ("always", B)), ("or", layers("again", 2, A), ("settles", B)))]:
            self.assert_possible(five, "run")
            self.assert_same_told(five, five, "same")
            self.assert_within(five, YES, "within")
            for function, handed in [(possible, [six]), (same, [six, A]), (same, [A, six]), (within, [six, A]),
                                     (within, [A, six]), (same, [six, six]), (within, [six, six])]:
                with self.assertRaises(TooMuch):
                    function(*handed)

    def test_waits_of_both_are_counted_over_one_book(self):
        three, two = layers("next", 3, A), layers("next", 2, B)
        self.assert_same_told(three, two, "parted")
        self.assert_within(three, two, "parted")
        # What both have is counted once.
        self.assert_same_told(layers("next", 5, A), layers("next", 4, A), "parted")
        self.assert_within(layers("again", 2, A), ("and", ("again", A), ("next", B)), "parted")
        for one, other in [(three, layers("next", 3, B)), (layers("again", 2, A), ("and", ("next", A), ("next", B))),
                           (("atlast", A), layers("next", 5, A))]:
            self.assertEqual(len(book_for(one, other).waits), 6)
            self.assertLessEqual(max(len(book_for(one).waits), len(book_for(other).waits)), 5)
            for function in [same, within]:
                with self.assertRaises(TooMuch):
                    function(one, other)
                with self.assertRaises(TooMuch):
                    function(other, one)

    def test_three_lamps_and_four(self):
        self.assert_possible(("and", A, ("and", B, C)), "run")
        self.assert_same_told(("and", A, B), ("and", B, C), "parted")
        self.assert_within(("and", A, B), ("and", B, C), "parted")
        four = ("and", ("or", A, B), ("or", C, D))
        for function, handed in [(possible, [four]), (same, [four, A]), (within, [A, four]), (same, [("and", A, B), ("and", C, D)]),
                                 (within, [("and", A, B), ("and", C, D)]), (same, [("and", A, ("and", B, C)), D])]:
            with self.assertRaises(TooMuch):
                function(*handed)


if __name__ == "__main__":
    unittest.main()
