import itertools
import unittest

from helper import ALL_LETTERS, OTHER_KINDS, Case

from lassoscribe.moments import all_moments, cut, is_moment, joined


def plain_moments(lamps):
    return ["".join(some) for size in range(len(lamps) + 1)
            for some in itertools.combinations(lamps, size)]


SOME_MOMENTS = plain_moments("abmz") + [ALL_LETTERS, ALL_LETTERS[1:], ALL_LETTERS[:-1], "acegikmoqsuwy"]


class IsMomentTest(Case):
    def test_true_of_letters_in_their_order(self):
        for thing in SOME_MOMENTS + list(ALL_LETTERS):
            with self.subTest(thing):
                self.assert_told(True, is_moment, thing)

    def test_false_of_a_letter_twice(self):
        for letter in ALL_LETTERS:
            self.assert_told(False, is_moment, letter + letter)
        for thing in ["aab", "abb", "abcc", "aba", ALL_LETTERS + "z", "a" * 8000]:
            with self.subTest(thing):
                self.assert_told(False, is_moment, thing)

    def test_false_out_of_order(self):
        for thing in ["ba", "za", "acb", "bac", "abdc", ALL_LETTERS[::-1], "b" + ALL_LETTERS.replace("b", "")]:
            with self.subTest(thing):
                self.assert_told(False, is_moment, thing)

    def test_false_with_any_other_sign(self):
        for code in range(32, 127):
            sign = chr(code)
            if sign not in ALL_LETTERS:
                for thing in [sign, sign + "a", "a" + sign, "a" + sign + "b", ALL_LETTERS + sign]:
                    with self.subTest(thing):
                        self.assert_told(False, is_moment, thing)

    def test_false_of_every_other_kind(self):
        for thing in OTHER_KINDS:
            with self.subTest(repr(thing)[:60]):
                self.assert_told(False, is_moment, thing)


class CutAndJoinedTest(Case):
    def test_cut_has_the_lamps_of_both(self):
        for moment in SOME_MOMENTS:
            for lamps in SOME_MOMENTS:
                expected = "".join(c for c in ALL_LETTERS if c in moment and c in lamps)
                with self.subTest(moment=moment, lamps=lamps):
                    self.assert_told(expected, cut, moment, lamps)

    def test_joined_has_the_lamps_of_one_or_both(self):
        for one in SOME_MOMENTS:
            for other in SOME_MOMENTS:
                expected = "".join(c for c in ALL_LETTERS if c in one or c in other)
                with self.subTest(one=one, other=other):
                    self.assert_told(expected, joined, one, other)

    def test_cut_by_hand(self):
        self.assert_told("", cut, "", "abc")
        self.assert_told("", cut, "abc", "")
        self.assert_told("abc", cut, "abc", "abc")
        self.assert_told("ac", cut, "abc", "acz")
        self.assert_told("", cut, "ac", "bd")
        self.assert_told("bq", cut, ALL_LETTERS, "bq")
        self.assert_told("bq", cut, "bq", ALL_LETTERS)

    def test_joined_by_hand(self):
        self.assert_told("", joined, "", "")
        self.assert_told("abc", joined, "", "abc")
        self.assert_told("abc", joined, "abc", "")
        self.assert_told("abc", joined, "abc", "abc")
        self.assert_told("abcd", joined, "bd", "ac")
        self.assert_told("abcd", joined, "ac", "bd")
        self.assert_told(ALL_LETTERS, joined, "acegikmoqsuwy", "bdfhjlnprtvxz")


class AllMomentsTest(Case):
    def test_as_the_document_tells_it(self):
        self.assert_told(["", "a", "ab", "b"], all_moments, "ab")

    def test_none_to_eight_lamps(self):
        for lamps in ["", "a", "z", "az", "abc", "bmqz", "abcde", "cdefgh", "aeiouyz", "abcdefgh", "stuvwxyz"]:
            with self.subTest(lamps):
                self.assert_told(sorted(plain_moments(lamps)), all_moments, lamps)

    def test_no_lamps_leave_the_dark_moment(self):
        self.assert_told([""], all_moments, "")

    def test_told_anew_each_time(self):
        for lamps in ["", "q", "ab", "abcdefgh"]:
            with self.subTest(lamps):
                self.assert_own(all_moments, lamps)


if __name__ == "__main__":
    unittest.main()
