import itertools
import random
import unittest

from helper import (A, ALL_LETTERS, B, C, YES, Case, drawn_book, drawn_run, layers, looked, sentence_of_row, truths)

from lassoscribe.books import book_of, hopes, waits
from lassoscribe.looks import all_claims, claims_of, eased, look

T, F = True, False


class LookTest(Case):
    def test_each_kind_of_row(self):
        for rows, moment, claims, view in [
            ([], "", (), ()), ([], ALL_LETTERS, (), ()), ([YES], "", (), (T,)), ([YES], "abc", (), (T,)),
            ([A], "a", (), (T,)), ([A], "", (), (F,)), ([A], "bc", (), (F,)), ([B], "abc", (), (T,)),
            ([A, ("not", 0)], "a", (), (T, F)), ([A, ("not", 0)], "z", (), (F, T)),
            ([A, B, ("and", 0, 1)], "ab", (), (T, T, T)), ([A, B, ("and", 0, 1)], "a", (), (T, F, F)),
            ([A, B, ("and", 0, 1)], "b", (), (F, T, F)), ([A, B, ("and", 0, 1)], "", (), (F, F, F)),
            ([A, ("next", 0)], "", (T,), (F, T)), ([A, ("next", 0)], "a", (F,), (T, F)),
            ([A, ("next", 0)], "", (F,), (F, F)), ([A, ("next", 0)], "a", (T,), (T, T)),
        ]:
            with self.subTest(rows=repr(rows), moment=moment, claims=claims):
                self.assert_told(view, look, rows, moment, claims)

    def test_until_at_each_moment_with_each_claim(self):
        rows = [A, B, ("until", 0, 1)]
        for moment, claim, truth in [("", F, F), ("", T, F), ("a", F, F), ("a", T, T), ("b", F, T), ("b", T, T),
                                     ("ab", F, T), ("ab", T, T)]:
            with self.subTest(moment=moment, claim=claim):
                self.assert_told(("a" in moment, "b" in moment, truth), look, rows, moment, (claim,))

    def test_both_parts_the_same_row(self):
        for moment, claim in itertools.product(["", "a", "b"], [F, T]):
            lit = moment == "a"
            self.assert_told((lit, lit), look, [A, ("and", 0, 0)], moment, ())
            self.assert_told((lit, lit), look, [A, ("until", 0, 0)], moment, (claim,))

    def test_an_until_goes_by_what_is_claimed_of_itself(self):
        rows = [YES, A, ("until", 0, 1), B, ("until", 0, 3), ("next", 1), ("next", 4)]
        self.assertEqual(waits(rows), [1, 2, 4])
        for claims in itertools.product([F, T], repeat=3):
            view = (T, F, claims[1], F, claims[2], claims[0], claims[2])
            self.assert_told(view, look, rows, "", claims)
            self.assert_told((T, T, T, F, claims[2], claims[0], claims[2]), look, rows, "a", claims)

    def test_drawn_books_any_moment_any_claims(self):
        source = random.Random(131)
        for many in list(range(1, 30)) * 8 + [100, 200, 200]:
            rows = drawn_book(source, many, "abcz")
            for _ in range(5):
                moment = "".join(letter for letter in ALL_LETTERS if source.random() < 0.5)
                claims = tuple(source.random() < 0.5 for _ in waits(rows))
                self.assert_told(looked(rows, moment, claims), look, rows, moment, claims)

    def test_the_truths_of_a_run_are_looks_with_the_truths_behind(self):
        source = random.Random(132)
        for many in list(range(1, 16)) * 6:
            rows = drawn_book(source, many, "ab", 30)
            run = drawn_run(source, ["", "a", "b", "ab"], 3, 3)
            columns = [truths(sentence_of_row(rows, number), run) for number in range(many)]
            views = list(zip(*columns, strict=True))
            moments = run[0] + run[1]
            for place, moment in enumerate(moments):
                behind = views[place + 1] if place + 1 < len(moments) else views[len(run[0])]
                self.assert_told(views[place], look, rows, moment, claims_of(rows, behind))

    def test_two_hundred_rows(self):
        rows, spots = book_of([layers("not", 99, A), layers("next", 99, B)])
        self.assertEqual(len(rows), 200)
        claims = tuple(number % 3 == 0 for number in range(99))
        nots = tuple(number % 2 == 0 for number in range(100))
        self.assert_told(nots + (False,) + claims, look, rows, "a", claims)
        self.assert_told(tuple(not truth for truth in nots) + (True,) + claims, look, rows, "b", claims)


class ClaimsOfTest(Case):
    def test_by_hand(self):
        self.assert_told((), claims_of, [], ())
        self.assert_told((), claims_of, [A, ("not", 0)], (T, F))
        self.assert_told((T,), claims_of, [A, ("next", 0)], (T, F))
        self.assert_told((F,), claims_of, [A, ("next", 0)], (F, T))
        rows = [YES, A, ("until", 0, 1), B, ("until", 0, 3), ("next", 3)]
        self.assertEqual(waits(rows), [2, 3, 4])
        for view in itertools.product([F, T], repeat=6):
            self.assert_told((view[2], view[3], view[4]), claims_of, rows, view)

    def test_of_drawn_books(self):
        source = random.Random(133)
        for many in list(range(1, 40)) + [200]:
            rows = drawn_book(source, many)
            view = tuple(source.random() < 0.5 for _ in range(many))
            self.assert_told(tuple(view[number] for number in waits(rows)), claims_of, rows, view)


class AllClaimsTest(Case):
    def test_none_one_and_two(self):
        self.assert_told([()], all_claims, 0)
        self.assert_told([(F,), (T,)], all_claims, 1)
        self.assert_told([(F, F), (F, T), (T, F), (T, T)], all_claims, 2)

    def test_up_to_eight(self):
        for many in range(9):
            told = self.ask(all_claims, many)
            self.assert_same(told, list(itertools.product([F, T], repeat=many)))
            self.assertEqual(len(told), 2 ** many)

    def test_told_is_the_askers_own(self):
        for many in range(9):
            self.assert_own(all_claims, many)


class EasedTest(Case):
    def test_each_way_of_one_hope(self):
        rows = [A, B, ("until", 0, 1)]
        for left in [F, T]:
            self.assert_told((0,), eased, rows, (left, F, F))
            self.assert_told((0,), eased, rows, (left, T, T))
            self.assert_told((0,), eased, rows, (left, T, F))
            self.assert_told((), eased, rows, (left, F, T))

    def test_no_hopes(self):
        self.assert_told((), eased, [], ())
        self.assert_told((), eased, [A, ("next", 0), ("not", 1)], (T, T, F))

    def test_numbers_of_hopes_and_not_of_rows(self):
        rows = [A, ("until", 0, 0), YES, B, ("until", 2, 3), C, ("not", 5), ("until", 6, 5)]
        self.assertEqual(hopes(rows), [1, 4, 7])
        for view, expected in [
            ((F, F, T, F, F, F, T, F), (0, 1, 2)), ((F, T, T, F, T, F, T, T), ()), ((T, T, T, F, T, F, T, T), (0,)),
            ((F, T, T, T, T, F, T, T), (1,)), ((F, T, T, F, T, T, F, T), (2,)), ((F, T, T, F, F, T, F, T), (1, 2)),
            ((F, F, T, F, T, F, T, F), (0, 2)), ((T, T, T, T, T, F, T, T), (0, 1)),
        ]:
            with self.subTest(view):
                self.assert_told(expected, eased, rows, view)

    def test_the_right_part_counts_and_not_the_left(self):
        rows = [A, B, ("until", 1, 0), ("until", 0, 1)]
        self.assert_told((0,), eased, rows, (T, F, T, T))
        self.assert_told((1,), eased, rows, (F, T, T, T))

    def test_of_drawn_books(self):
        source = random.Random(141)
        for many in list(range(1, 40)) * 3 + [200]:
            rows = drawn_book(source, many)
            view = tuple(source.random() < 0.6 for _ in range(many))
            untils = [(number, row[2]) for number, row in enumerate(rows) if row[0] == "until"]
            expected = tuple(place for place, (until, right) in enumerate(untils) if not view[until] or view[right])
            self.assert_told(expected, eased, rows, view)


if __name__ == "__main__":
    unittest.main()
