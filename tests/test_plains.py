import random
import unittest

from helper import (A, B, C, NO, PLAIN_WORDS, WORDS, YES, Case, all_sentences, deep, drawn_run, drawn_sentence,
                    drawn_sentences, layers, parts, small_runs, truths)

from lassoscribe.plains import denied, plain

# The told turns of point 10, as texts with s, t, d, e, y in them: the denials are worked out by the test.
TURNS = {
    "yes": '("yes",)', "no": '("not", y)', "not": 'd', "and": '("and", s, t)', "next": '("next", s)',
    "until": '("until", s, t)', "or": '("not", ("and", d, e))', "then": '("not", ("and", s, e))',
    "frees": '("not", ("until", d, e))', "atlast": '("until", y, s)', "always": '("not", ("until", y, d))',
    "again": '("not", ("until", y, ("not", ("until", y, s))))',
    "settles": '("until", y, ("not", ("until", y, d)))',
}


def turned_by_the_told_turns(sentence):
    if sentence[0] == "lamp":
        return sentence
    forms = [turned_by_the_told_turns(part) for part in sentence[1:]] + [None, None]
    denials = [form and (form[1] if form[0] == "not" else ("not", form)) for form in forms]
    known = {"s": forms[0], "t": forms[1], "d": denials[0], "e": denials[1], "y": ("yes",)}
    return eval(TURNS[sentence[0]], {}, known)


def is_tuples_and_texts(thing):
    return type(thing) is str or type(thing) is tuple and all(is_tuples_and_texts(part) for part in thing)


class DeniedTest(Case):
    def test_of_a_sentence_without_a_not_ahead(self):
        for sentence in [YES, A, ("and", A, B), ("next", A), ("until", A, B), ("and", ("not", A), ("not", B)),
                         ("next", ("not", A))]:
            with self.subTest(repr(sentence)):
                self.assert_told(("not", sentence), denied, sentence)

    def test_of_a_sentence_with_a_not_ahead(self):
        for sentence in [YES, A, ("and", A, B), ("next", A), ("until", A, B), ("next", ("not", A))]:
            with self.subTest(repr(sentence)):
                self.assert_told(sentence, denied, ("not", sentence))

    def test_one_two_and_three_nots(self):
        self.assert_told(A, denied, ("not", A))
        self.assert_told(("not", A), denied, ("not", ("not", A)))
        self.assert_told(("not", ("not", A)), denied, ("not", ("not", ("not", A))))

    def test_up_to_two_hundred_words_a_hundred_deep(self):
        self.assert_told(layers("not", 98, A), denied, layers("not", 99, A))
        self.assert_told(("not", layers("next", 98, A)), denied, layers("next", 98, A))
        self.assert_told(layers("next", 98, A), denied, ("not", layers("next", 98, A)))
        source = random.Random(101)
        for _ in range(20):
            sentence = drawn_sentence(source, 199, "abc", PLAIN_WORDS)
            if sentence[0] != "not":
                self.assert_told(("not", sentence), denied, sentence)
            self.assert_told(sentence, denied, ("not", sentence))


class PlainTest(Case):
    def test_each_word_by_hand(self):
        d, e = ("not", A), ("not", B)
        for sentence, expected in [
            (YES, YES), (NO, ("not", YES)), (A, A), (("not", A), d), (("and", A, B), ("and", A, B)),
            (("next", A), ("next", A)), (("until", A, B), ("until", A, B)), (("or", A, B), ("not", ("and", d, e))),
            (("then", A, B), ("not", ("and", A, e))), (("frees", A, B), ("not", ("until", d, e))),
            (("atlast", A), ("until", YES, A)), (("always", A), ("not", ("until", YES, d))),
            (("again", A), ("not", ("until", YES, ("not", ("until", YES, A))))),
            (("settles", A), ("until", YES, ("not", ("until", YES, d)))),
        ]:
            with self.subTest(repr(sentence)):
                self.assert_told(expected, plain, sentence)

    def test_words_within_words_by_hand(self):
        d, e = ("not", A), ("not", B)
        for sentence, expected in [
            (("not", ("not", A)), A), (("not", ("not", ("not", A))), d), (("not", NO), YES), (("always", NO),
             ("not", ("until", YES, YES))), (("or", ("not", A), NO), ("not", ("and", A, YES))),
            (("not", ("or", A, B)), ("and", d, e)), (("then", ("not", A), ("not", B)), ("not", ("and", d, B))),
            (("frees", ("not", A), ("next", B)), ("not", ("until", A, ("not", ("next", B))))),
            (("always", ("always", A)), ("not", ("until", YES, ("until", YES, d)))),
            (("not", ("always", A)), ("until", YES, d)), (("atlast", ("not", A)), ("until", YES, d)),
            (("settles", ("not", A)), ("until", YES, ("not", ("until", YES, A)))),
            (("again", ("not", A)), ("not", ("until", YES, ("not", ("until", YES, d))))),
            (("not", ("again", A)), ("until", YES, ("not", ("until", YES, A)))),
            (("next", ("or", A, B)), ("next", ("not", ("and", d, e)))),
            (("until", ("or", A, B), ("always", A)),
             ("until", ("not", ("and", d, e)), ("not", ("until", YES, d)))),
        ]:
            with self.subTest(repr(sentence)):
                self.assert_told(expected, plain, sentence)

    def test_by_the_told_turns(self):
        for sentence in all_sentences(4, [YES, NO, A]) + drawn_sentences(102, 400, range(5, 25)):
            self.assert_told(turned_by_the_told_turns(sentence), plain, sentence)

    def test_plain_words_alone_as_tuples_and_texts(self):
        for sentence in all_sentences(3, [YES, NO, A]) + drawn_sentences(103, 200, range(4, 25)):
            told = plain(sentence)
            self.assertTrue(is_tuples_and_texts(told), sentence)
            for part in parts(told):
                self.assertIn(part[0], PLAIN_WORDS)
                self.assertEqual(len(part), 1 + max(WORDS[part[0]], part[0] == "lamp"))

    def test_no_not_straight_under_a_not(self):
        # None of the told turns has one so, where s, t, d and e have none.
        for sentence in all_sentences(4, [YES, NO, A]) + drawn_sentences(104, 400, range(5, 25)):
            for part in parts(plain(sentence)):
                self.assertFalse(part[0] == "not" and part[1][0] == "not", sentence)

    def test_the_longest_and_deepest(self):
        for word in [word for word in WORDS if WORDS[word] == 1]:
            told = self.ask(plain, layers(word, 23, A))
            self.assert_same(told, turned_by_the_told_turns(layers(word, 23, A)))
            self.assertLessEqual(deep(told), 100)
            self.assertLessEqual(len(parts(told)), 200)
        self.assertEqual(len(parts(plain(layers("settles", 23, A)))), 139)
        self.assertEqual(deep(plain(layers("again", 23, A))), 93)

    def test_plain_sentences_without_double_nots_stay(self):
        for sentence in all_sentences(4, [YES, A], PLAIN_WORDS):
            if not any(part[0] == "not" and part[1][0] == "not" for part in parts(sentence)):
                self.assert_told(sentence, plain, sentence)


class SayTheSameTest(Case):
    """The plain form is true where the sentence is, and its denial where it is not."""

    def assert_says_the_same(self, sentence, run):
        expected = truths(sentence, run)
        told = plain(sentence)
        self.assertEqual(truths(told, run), expected, (sentence, run))
        self.assertEqual(truths(denied(told), run), [not truth for truth in expected], (sentence, run))

    def test_small_sentences_on_small_runs(self):
        runs = small_runs(["", "a", "ab"], 1, 2) + [(["a", "b"], ["b", "", "ab"]), (["", "ab", "a"], ["b"])]
        for sentence in all_sentences(3, [YES, NO, A, B]):
            for run in runs:
                self.assert_says_the_same(sentence, run)

    def test_drawn_sentences_on_drawn_runs(self):
        source = random.Random(105)
        for size in list(range(4, 25)) * 15:
            sentence = drawn_sentence(source, size)
            for _ in range(3):
                run = drawn_run(source, ["", "a", "b", "ab", "ac", "abc", "c", "xyz"], 3, 4)
                self.assert_says_the_same(sentence, run)

    def test_the_denial_of_any_plain_sentence(self):
        source = random.Random(106)
        for size in list(range(1, 40)) * 4:
            sentence = drawn_sentence(source, size, "abc", PLAIN_WORDS)
            run = drawn_run(source, ["", "a", "b", "bc"], 3, 3)
            expected = [not truth for truth in truths(sentence, run)]
            self.assertEqual(truths(self.ask(denied, sentence), run), expected)

    def test_the_reading_of_the_tests_by_hand(self):
        # The reading that the other tests lean on is itself held against rows worked out by hand.
        run = (["a", "b"], ["", "ab", "c"])
        for sentence, expected in [
            (YES, "11111"), (NO, "00000"), (A, "10010"), (("not", A), "01101"), (("and", A, B), "00010"),
            (("or", A, B), "11010"), (("then", A, B), "01111"), (("next", A), "00100"), (("next", C), "00010"),
            (("next", ("not", C)), "11101"), (("atlast", A), "11111"), (("always", ("not", ("and", A, C))), "11111"),
            (("always", ("or", A, B)), "00000"), (("again", C), "11111"), (("again", ("and", B, ("not", A))), "00000"),
            (("settles", ("not", C)), "00000"), (("settles", ("or", C, ("not", C))), "11111"),
            (("until", ("or", A, B), C), "00011"), (("until", ("not", C), A), "11110"), (("until", A, B), "11010"),
            (("until", YES, NO), "00000"), (("frees", C, ("or", A, B)), "00000"), (("frees", A, ("not", C)), "11110"),
            (("frees", NO, ("not", ("and", A, C))), "11111"), (("frees", C, ("not", A)), "00001"),
            (("frees", A, A), "10010"), (("frees", YES, B), "01010"),
        ]:
            with self.subTest(repr(sentence)):
                self.assertEqual(truths(sentence, run), [sign == "1" for sign in expected])


if __name__ == "__main__":
    unittest.main()
