import random
import unittest

from helper import (A, ALL_LETTERS, B, C, PLAIN_WORDS, YES, Case, all_sentences, deep, drawn_book, drawn_sentence,
                    layers, parts, sentence_of_row)

from lassoscribe.books import book_of, hopes, lamps_in, unfolded, waits
from lassoscribe.plains import plain


def laid_out(some):
    """The book as point 11 tells it, kept as a list of sentences until the end."""
    order = []

    def lay(sentence):
        for part in sentence[1:] if sentence[0] != "lamp" else []:
            lay(part)
        if sentence not in order:
            order.append(sentence)

    for sentence in some:
        lay(sentence)
    rows = [sentence if sentence[0] == "lamp"
            else (sentence[0],) + tuple(order.index(part) for part in sentence[1:]) for sentence in order]
    return rows, [order.index(sentence) for sentence in some]


def deep_and_long():
    """Plain sentences of up to two hundred words, nested up to a hundred deep."""
    left, right = B, C
    for level in range(99):
        left = ("until", left, ("lamp", ALL_LETTERS[level % 26])) if level % 3 else ("and", A, left)
        right = ("until", A, right) if level % 2 else ("and", right, YES)
    return [layers("not", 99, A), layers("next", 99, YES), left, right,
            ("and", layers("next", 98, A), layers("next", 98, A)),
            ("until", layers("next", 98, A), layers("not", 98, B))]


class BookOfTest(Case):
    def test_no_sentences(self):
        self.assert_told(([], []), book_of, [])

    def test_each_word(self):
        for sentence, rows in [
            (YES, [YES]), (A, [A]), (("not", A), [A, ("not", 0)]), (("next", B), [B, ("next", 0)]),
            (("and", A, B), [A, B, ("and", 0, 1)]), (("and", B, A), [B, A, ("and", 0, 1)]),
            (("until", B, A), [B, A, ("until", 0, 1)]), (("until", A, A), [A, ("until", 0, 0)]),
            (("not", ("not", A)), [A, ("not", 0), ("not", 1)]), (("and", YES, YES), [YES, ("and", 0, 0)]),
        ]:
            with self.subTest(repr(sentence)):
                self.assert_told((rows, [len(rows) - 1]), book_of, [sentence])

    def test_the_left_before_the_right_and_what_stands_in_it_before_itself(self):
        sentence = ("until", ("and", C, ("not", A)), ("next", ("and", A, C)))
        rows = [C, A, ("not", 1), ("and", 0, 2), ("and", 1, 0), ("next", 4), ("until", 3, 5)]
        self.assert_told((rows, [6]), book_of, [sentence])

    def test_alike_sentences(self):
        self.assert_told(([A], [0, 0, 0]), book_of, [A, A, A])
        self.assert_told(([A, ("not", 0)], [1, 1]), book_of, [("not", A), ("not", ("lamp", "a"))])

    def test_one_a_part_of_another(self):
        self.assert_told(([A, ("not", 0), ("next", 1)], [2, 1, 0]), book_of, [("next", ("not", A)), ("not", A), A])
        self.assert_told(([A, ("not", 0), ("next", 1)], [0, 1, 2]), book_of, [A, ("not", A), ("next", ("not", A))])
        self.assert_told(([B, A, ("and", 1, 0)], [0, 2, 1]), book_of, [B, ("and", A, B), A])

    def test_parts_alike_in_several_sentences_have_one_row(self):
        some = [("until", A, ("next", B)), ("and", ("next", B), A), ("not", ("until", A, ("next", B)))]
        rows = [A, B, ("next", 1), ("until", 0, 2), ("and", 2, 0), ("not", 3)]
        self.assert_told((rows, [3, 4, 5]), book_of, some)

    def test_small_and_drawn_sentences(self):
        for sentence in all_sentences(4, [YES, A, B], PLAIN_WORDS):
            self.assert_told(laid_out([sentence]), book_of, [sentence])
        source = random.Random(111)
        for _ in range(150):
            some = [drawn_sentence(source, source.randint(1, 30), "abcd", PLAIN_WORDS)
                    for _ in range(source.randint(0, 5))]
            some += [part for sentence in some for part in source.sample(parts(sentence), 1)]
            rows, spots = self.ask(book_of, some)
            self.assert_same((rows, spots), laid_out(some))
            self.assertEqual(len(set(rows)), len(rows))

    def test_up_to_two_hundred_words_a_hundred_deep(self):
        for sentence in deep_and_long():
            self.assertTrue(deep(sentence) <= 100 and len(parts(sentence)) <= 200)
            self.assert_told(laid_out([sentence]), book_of, [sentence])
        source = random.Random(112)
        for _ in range(5):
            sentence = drawn_sentence(source, 200, ALL_LETTERS, PLAIN_WORDS)
            self.assert_told(laid_out([sentence]), book_of, [sentence])
        two_hundred = [layers("next", 99, A), layers("not", 99, B)]
        rows, spots = self.ask(book_of, two_hundred)
        self.assertEqual((len(rows), spots), (200, [99, 199]))
        self.assert_same((rows, spots), laid_out(two_hundred))

    def test_told_is_the_askers_own(self):
        for some in [[A], [A, A], [("until", A, ("next", B)), B], [YES, ("not", YES)]]:
            self.assert_own(book_of, some)
        first = book_of([])
        first[0].append(A)
        first[1].append(0)
        self.assert_told(([], []), book_of, [])


class UnfoldedTest(Case):
    def test_by_hand(self):
        rows = [C, A, ("not", 1), ("and", 0, 2), ("and", 1, 1), ("next", 4), ("until", 3, 5), YES]
        some = [C, A, ("not", A), ("and", C, ("not", A)), ("and", A, A), ("next", ("and", A, A)),
                ("until", ("and", C, ("not", A)), ("next", ("and", A, A))), YES]
        for spot, expected in enumerate(some):
            self.assert_told(expected, unfolded, rows, spot)

    def test_the_sentences_laid_come_back(self):
        source = random.Random(113)
        for size in list(range(1, 25)) * 5 + [200]:
            some = [drawn_sentence(source, size, "abcd", PLAIN_WORDS), drawn_sentence(source, 3, "ab", PLAIN_WORDS)]
            rows, spots = book_of(some)
            self.assert_same([self.ask(unfolded, rows, spot) for spot in spots], some)
        for sentence in deep_and_long():
            rows, spots = book_of([sentence])
            self.assert_told(sentence, unfolded, rows, spots[0])

    def test_a_book_of_all_the_rows_sentences_has_just_these_rows(self):
        source = random.Random(114)
        books = [drawn_book(source, many) for many in list(range(1, 30)) * 2 + [100, 150, 200, 200]]
        books.append(book_of([layers("next", 99, A), layers("not", 99, B)])[0])
        books += [book_of([sentence])[0] for sentence in deep_and_long()]
        for rows in books:
            some = [self.ask(unfolded, rows, spot) for spot in range(len(rows))]
            self.assert_same(some, [sentence_of_row(rows, spot) for spot in range(len(rows))])
            self.assert_told((rows, list(range(len(rows)))), book_of, some)

    def test_a_row_is_its_sentence_whatever_comes_later(self):
        rows = [A, ("not", 0), ("and", 0, 1)]
        self.assert_told(("not", A), unfolded, rows, 1)
        rows.append(("next", 2))
        self.assert_told(("not", A), unfolded, rows, 1)
        self.assert_told(("next", ("and", A, ("not", A))), unfolded, rows, 3)


class LampsInTest(Case):
    def test_by_hand(self):
        for rows, expected in [
            ([], ""), ([YES], ""), ([A], "a"), ([YES, ("not", 0), ("next", 1)], ""), ([C, A, ("and", 0, 1), B], "abc"),
            ([("lamp", "z"), ("not", 0), ("lamp", "a"), ("until", 1, 2), ("lamp", "m")], "amz"),
        ]:
            with self.subTest(repr(rows)):
                self.assert_told(expected, lamps_in, rows)

    def test_all_letters_each_once_in_their_order(self):
        for letters in [ALL_LETTERS, ALL_LETTERS[::-1], "qwertyuiopasdfghjklzxcvbnm"]:
            self.assert_told(ALL_LETTERS, lamps_in, [("lamp", letter) for letter in letters])

    def test_of_drawn_books(self):
        source = random.Random(115)
        for many in list(range(1, 40)) + [200]:
            rows = drawn_book(source, many, ALL_LETTERS)
            lit = [row[1] for row in rows if row[0] == "lamp"]
            self.assert_told("".join(letter for letter in ALL_LETTERS if letter in lit), lamps_in, rows)


class WaitsAndHopesTest(Case):
    def assert_waits_and_hopes(self, rows, waiting, hoped):
        self.assert_told(waiting, waits, rows)
        self.assert_told(hoped, hopes, rows)

    def test_no_such_rows(self):
        for rows in [[], [YES], [A, B, ("and", 0, 1), ("not", 2)]]:
            self.assert_waits_and_hopes(rows, [], [])

    def test_by_hand(self):
        for rows, waiting, hoped in [
            ([A, ("next", 0)], [0], []),
            ([A, B, ("until", 0, 1)], [2], [2]),
            ([A, ("next", 0), ("next", 1)], [0, 1], []),
            ([A, ("until", 0, 0), ("until", 0, 1), ("until", 2, 1)], [1, 2, 3], [1, 2, 3]),
            ([A, B, ("next", 1), ("until", 0, 2), ("next", 0)], [0, 1, 3], [3]),
            ([A, B, ("and", 0, 1), ("next", 2)], [2], []),
            ([A, ("until", 0, 0), B, ("next", 2), ("not", 3), ("next", 4)], [1, 2, 4], [1]),
        ]:
            with self.subTest(repr(rows)):
                self.assert_waits_and_hopes(rows, waiting, hoped)

    def test_an_until_row_under_a_next_is_there_once(self):
        rows = [A, B, ("until", 0, 1), ("next", 2), ("not", 2), ("next", 4), ("and", 3, 5)]
        self.assert_waits_and_hopes(rows, [2, 4], [2])

    def test_a_row_that_stands_under_two_nexts_is_there_once(self):
        sentence = ("and", ("until", ("next", A), B), ("not", ("and", ("next", A), ("next", ("next", A)))))
        rows, spots = book_of([sentence, ("next", ("next", A)), ("next", ("until", ("next", A), B))])
        under = [number for number, row in enumerate(rows) if ("next", number) in rows]
        self.assertEqual([unfolded(rows, number) for number in under], [A, ("next", A), ("until", ("next", A), B)])
        self.assert_waits_and_hopes(rows, under, [3])

    def test_of_drawn_books(self):
        source = random.Random(116)
        for many in list(range(1, 40)) * 2 + [200]:
            rows = drawn_book(source, many)
            hoped = [number for number in range(many) if rows[number][0] == "until"]
            waiting = [number for number in range(many) if number in hoped or ("next", number) in rows]
            self.assert_waits_and_hopes(rows, waiting, hoped)

    def test_of_plain_forms(self):
        for sentence, many_waits, many_hopes in [
            (("always", ("then", A, ("atlast", B))), 2, 2), (("again", A), 2, 2), (("settles", A), 2, 2),
            (("next", ("next", A)), 2, 0), (("or", A, B), 0, 0), (("frees", A, ("next", B)), 2, 1),
        ]:
            rows = book_of([plain(sentence)])[0]
            self.assertEqual((len(waits(rows)), len(hopes(rows))), (many_waits, many_hopes), sentence)

    def test_told_is_the_askers_own(self):
        for rows in [[A, ("until", 0, 0)], [A, B, ("next", 1), ("until", 0, 2), ("next", 3)]]:
            self.assert_own(waits, list(rows))
            self.assert_own(hopes, list(rows))


if __name__ == "__main__":
    unittest.main()
