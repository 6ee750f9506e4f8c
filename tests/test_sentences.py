import random
import unittest

from helper import (A, ALL_LETTERS, B, C, NO, OTHER_KINDS, PLAIN_WORDS, WORDS, YES, Case, all_sentences, deep,
                    drawn_sentence, drawn_sentences, layers, nested, parts)

from lassoscribe.sentences import is_sentence, lamps_of, words

# Texts that stand for no word and no lamp, and things of each other kind that point 2 lists.
WRONG_TEXTS = ["", " ", "Yes", "yes ", "nope", "eventually", "a", "lamp a", "not", "('yes',)", "x" * 8000]
WRONG_KINDS = OTHER_KINDS + WRONG_TEXTS + [
    {"yes": None}, {0: "yes"}, {("yes",): ("yes",)}, ["yes"], ["lamp", "a"], ["not", ("yes",)],
    ("yes", None), (("yes",),), [("yes",)], {"a": nested(98)}, (nested(98), nested(98)), [0] * 6999,
]


def with_inner(word, spot, inner):
    """A sentence of the word in which something stands at that spot, the others being as they ought to."""
    return (word,) + tuple(inner if place == spot else A for place in range(WORDS[word]))


def wrapped(source, thing, depth):
    """The thing within so many layers of words."""
    for _ in range(depth):
        word = source.choice([word for word in WORDS if WORDS[word] > 0])
        thing = with_inner(word, source.randrange(WORDS[word]), thing)
    return thing


def balanced(depth):
    """The same tuple object twice at each level: two to the power of depth leaves."""
    sentence = A
    for _ in range(depth):
        sentence = ("and", sentence, sentence)
    return sentence


def with_leaves_in_a_row(many):
    """So many leaves and one word less between them."""
    sentence = A
    for place in range(many - 1):
        sentence = ("then", sentence, C) if place % 2 else ("frees", B, sentence)
    return sentence


def with_part(sentence, number, other):
    """The sentence with something else in the place of one of its parts, by its number from the left."""
    if number == 0:
        return other
    begin = 1
    for spot, inner in enumerate(sentence[1:], start=1):
        size = len(parts(inner))
        if number < begin + size:
            return sentence[:spot] + (with_part(inner, number - begin, other),) + sentence[spot + 1:]
        begin += size
    raise AssertionError("no such part")


class IsSentenceTest(Case):
    def test_true_of_each_word(self):
        for word, many in WORDS.items():
            sentence = ("lamp", "a") if word == "lamp" else (word,) + (YES,) * many
            with self.subTest(word):
                self.assert_told(True, is_sentence, sentence)

    def test_true_of_each_lamp(self):
        for letter in ALL_LETTERS:
            self.assert_told(True, is_sentence, ("lamp", letter))
            self.assert_told(True, is_sentence, ("not", ("lamp", letter)))

    def test_true_of_all_small_sentences(self):
        for sentence in all_sentences(4, [YES, NO, A]):
            self.assertIs(is_sentence(sentence), True, sentence)

    def test_true_up_to_twenty_four_words(self):
        source = random.Random(81)
        for size in range(1, 25):
            for _ in range(20):
                sentence = drawn_sentence(source, size)
                self.assertEqual(len(parts(sentence)), size)
                self.assert_told(True, is_sentence, sentence)
        self.assert_told(True, is_sentence, layers("always", 23, A))
        self.assert_told(True, is_sentence, ("not", with_leaves_in_a_row(12)))

    def test_false_of_twenty_five_words_and_more(self):
        source = random.Random(82)
        for size in [25, 25, 25, 25, 26, 27, 30, 48, 49, 100]:
            for _ in range(10):
                sentence = drawn_sentence(source, size)
                self.assert_told(False, is_sentence, sentence)
        for word in [word for word in WORDS if WORDS[word] == 1]:
            self.assert_told(True, is_sentence, layers(word, 23, A))
            self.assert_told(False, is_sentence, layers(word, 24, A))
            self.assert_told(False, is_sentence, layers(word, 99, A))
        self.assert_told(False, is_sentence, with_leaves_in_a_row(13))
        self.assert_told(False, is_sentence, ("and", with_leaves_in_a_row(6), with_leaves_in_a_row(7)))

    def test_the_same_object_counts_as_often_as_it_stands_there(self):
        self.assert_told(True, is_sentence, balanced(3))
        self.assert_told(False, is_sentence, balanced(4))
        self.assert_told(False, is_sentence, balanced(11))
        eleven = layers("not", 10, A)
        twelve = layers("not", 11, A)
        self.assert_told(True, is_sentence, ("and", eleven, eleven))
        self.assert_told(True, is_sentence, ("or", eleven, twelve))
        self.assert_told(False, is_sentence, ("or", twelve, twelve))
        self.assert_told(False, is_sentence, ("until", twelve, twelve))

    def test_false_with_too_many_or_too_few_things(self):
        for word, many in WORDS.items():
            for other in range(5):
                if other != many and word != "lamp":
                    with self.subTest(word=word, other=other):
                        self.assert_told(False, is_sentence, (word,) + (YES,) * other)
                        self.assert_told(False, is_sentence, ("not", (word,) + (A,) * other))
        for thing in [("lamp",), ("lamp", "a", "b"), ("lamp", "a", A), ("lamp", "a", "a"), (),
                      ("and",) + (A,) * 6999, ("yes",) * 7000, ("yes",) + (A,) * 23]:
            with self.subTest(repr(thing)[:60]):
                self.assert_told(False, is_sentence, thing)
                self.assert_told(False, is_sentence, ("next", thing))

    def test_false_of_an_unknown_word(self):
        unknown = [text for text in WRONG_TEXTS if text not in WORDS]
        for word in unknown + ["YES", "And", "nexts", "ever", "lamps", "true", "implies"]:
            for many in range(4):
                with self.subTest(word=word[:20], many=many):
                    self.assert_told(False, is_sentence, (word,) + (A,) * many)
                    self.assert_told(False, is_sentence, ("or", (word,) + (A,) * many, B))

    def test_false_where_a_lamp_is_no_small_letter(self):
        wrong = [chr(code) for code in range(32, 127) if chr(code) not in ALL_LETTERS]
        for letter in wrong + ["", "ab", "aa", "a ", " a", ALL_LETTERS, "a" * 8000] + OTHER_KINDS + [A, YES]:
            with self.subTest(repr(letter)[:40]):
                self.assert_told(False, is_sentence, ("lamp", letter))
                self.assert_told(False, is_sentence, ("and", A, ("lamp", letter)))

    def test_false_of_lists_in_the_place_of_tuples(self):
        for thing in [["yes"], ["lamp", "a"], ["not", A], ("not", ["yes"]), ("and", A, ["lamp", "b"]),
                      ("and", ["lamp", "a"], B), ["and", ["yes"], ["yes"]], ("lamp", ["a"]), (["yes"],)]:
            with self.subTest(repr(thing)):
                self.assert_told(False, is_sentence, thing)

    def test_false_of_every_other_kind(self):
        for thing in WRONG_KINDS:
            with self.subTest(repr(thing)[:60]):
                self.assert_told(False, is_sentence, thing)

    def test_false_of_every_other_kind_in_the_place_of_the_word(self):
        for thing in OTHER_KINDS + [A, YES, (), {}, {"yes": "yes"}]:
            for many in range(3):
                with self.subTest(thing=repr(thing)[:60], many=many):
                    self.assert_told(False, is_sentence, (thing,) + (A,) * many)
                    self.assert_told(False, is_sentence, ("not", (thing,) + (A,) * many))

    def test_false_of_every_other_kind_within(self):
        for thing in WRONG_KINDS:
            for word, many in WORDS.items():
                for spot in range(many):
                    self.assertIs(self.ask(is_sentence, with_inner(word, spot, thing)), False, (word, spot))

    def test_false_of_every_other_kind_at_any_depth(self):
        source = random.Random(83)
        for thing in WRONG_KINDS:
            for depth in [2, 3, 5, 8, 11, 22, 23, 24, 30]:
                self.assertIs(self.ask(is_sentence, wrapped(source, thing, depth)), False, depth)

    def test_false_up_to_the_bounds_of_what_may_be_handed_in(self):
        for inner in [A, [], {}, None, 0, "x" * 8000, ()]:
            for word in ["not", "settles"]:
                self.assert_told(False, is_sentence, layers(word, 98, inner))
        self.assert_told(False, is_sentence, nested(99))
        self.assert_told(False, is_sentence, (A,) * 3000)
        self.assert_told(False, is_sentence, ("and", (A,) * 1500, (B,) * 1500))
        self.assert_told(False, is_sentence, {number: A for number in range(2000)})
        self.assert_told(False, is_sentence, ("not", {"yes": layers("not", 90, A)}))

    def test_false_where_one_thing_of_a_sentence_is_wrong(self):
        for sentence in drawn_sentences(84, 40, [6, 12, 24]):
            for number in range(len(parts(sentence))):
                for wrong in [None, True, 0, "a", [], ["yes"], (), {}, ("maybe",), ("lamp", "A"), ("yes", YES)]:
                    self.assertIs(is_sentence(with_part(sentence, number, wrong)), False, (sentence, number))


class WordsAndLampsTest(Case):
    def test_by_hand(self):
        for sentence, many, lamps in [
            (YES, 1, ""), (NO, 1, ""), (A, 1, "a"), (("lamp", "z"), 1, "z"), (("not", A), 2, "a"),
            (("and", A, A), 3, "a"), (("and", B, A), 3, "ab"), (("until", ("lamp", "z"), ("lamp", "m")), 3, "mz"),
            (("always", ("then", A, ("next", ("atlast", ("not", B))))), 7, "ab"),
            (("or", ("frees", C, B), ("settles", ("again", A))), 7, "abc"),
            (("or", YES, NO), 3, ""),
        ]:
            with self.subTest(repr(sentence)):
                self.assert_told(many, words, sentence)
                self.assert_told(lamps, lamps_of, sentence)

    def test_drawn_sentences(self):
        for sentence in drawn_sentences(85, 300, range(1, 25), ALL_LETTERS):
            found = parts(sentence)
            lamps = [part[1] for part in found if part[0] == "lamp"]
            self.assert_told(len(found), words, sentence)
            self.assert_told("".join(letter for letter in ALL_LETTERS if letter in lamps), lamps_of, sentence)

    def test_each_as_often_as_it_stands_there(self):
        self.assert_told(15, words, balanced(3))
        self.assert_told("a", lamps_of, balanced(3))
        self.assert_told(127, words, balanced(6))
        self.assert_told("a", lamps_of, balanced(6))

    def test_all_lamps_in_the_order_of_the_letters(self):
        for letters in [ALL_LETTERS, ALL_LETTERS[::-1], "qwertyuiopasdfghjklzxcvbnm" * 3]:
            sentence = ("lamp", letters[0])
            for letter in letters[1:]:
                sentence = ("until", sentence, ("lamp", letter))
            self.assert_told(ALL_LETTERS, lamps_of, sentence)
            self.assert_told(2 * len(letters) - 1, words, sentence)

    def test_plain_sentences_of_two_hundred_words_a_hundred_deep(self):
        left, right = B, ("lamp", "y")
        for level in range(99):
            left = ("until", left, A) if level % 2 else ("and", ("lamp", "z"), left)
            right = ("next", right) if level % 2 else ("not", right)
        for sentence, many, lamps in [(left, 199, "abz"), (("not", left[2]), 198, "abz"), (right, 100, "y"),
                                      (("and", right[1], right[1]), 199, "y"),
                                      (("not", ("and", right[1][1], right[1][1])), 198, "y")]:
            self.assertLessEqual(deep(sentence), 100)
            self.assert_told(many, words, sentence)
            self.assert_told(lamps, lamps_of, sentence)
        source = random.Random(86)
        for sentence in [drawn_sentence(source, 200, ALL_LETTERS, PLAIN_WORDS) for _ in range(30)]:
            self.assert_told(200, words, sentence)
            lamps = [part[1] for part in parts(sentence) if part[0] == "lamp"]
            self.assert_told("".join(sorted(set(lamps))), lamps_of, sentence)


if __name__ == "__main__":
    unittest.main()
