import random
import unittest

from helper import (A, ALL_LETTERS, B, C, NO, OTHER_KINDS, WORDS, YES, Case, all_sentences, drawn_machine, drawn_run,
                    drawn_sentences, layers, nested, small_runs)

from lassoscribe.errors import NoText
from lassoscribe.texts import (read_machine, read_run, read_sentence, show_machine, show_run, show_sentence, show_walk)

GREAT = 10 ** 60 - 1
NO_TEXTS = OTHER_KINDS + [nested(100), YES, A, ([], ["a"]), (["a"], [], [], []), ["yes"], ("yes",), {"yes": "yes"}]
SIGNS = " -/();abnoytx01A._"


def altered(text):
    """The text with one sign more, less or other at each place."""
    found = []
    for place in range(len(text) + 1):
        found.append(text[:place] + text[place + 1:])
        for sign in SIGNS:
            found.append(text[:place] + sign + text[place:])
            found.append(text[:place] + sign + text[place + 1:])
    return sorted(set(found) - {text})


class TextCase(Case):
    def assert_refused(self, function, thing):
        before = repr(thing)
        with self.subTest(before[:80]):
            with self.assertRaises(NoText):
                function(thing)
            self.assertTrue(repr(thing) == before)

    def assert_shown(self, show, read, thing, text):
        self.assert_told(text, show, thing)
        self.assert_told(thing, read, text)


class SentenceTextTest(TextCase):
    def shown(self, sentence):
        word = sentence[0]
        if word == "lamp":
            return sentence[1]
        inner = [self.shown(part) for part in sentence[1:]]
        return word if not inner else word + " " + inner[0] if len(inner) == 1 \
            else "({} {} {})".format(inner[0], word, inner[1])

    def test_sign_by_sign(self):
        for sentence, text in [
            (YES, "yes"), (NO, "no"), (A, "a"), (("lamp", "z"), "z"), (("not", A), "not a"), (("next", YES), "next yes"),
            (("atlast", B), "atlast b"), (("always", NO), "always no"), (("again", C), "again c"),
            (("settles", A), "settles a"), (("and", A, B), "(a and b)"), (("or", A, B), "(a or b)"),
            (("then", YES, NO), "(yes then no)"), (("until", A, A), "(a until a)"), (("frees", A, B), "(a frees b)"),
            (("always", ("then", A, ("next", ("atlast", ("not", B))))), "always (a then next atlast not b)"),
            (("and", ("or", A, B), ("not", ("until", C, NO))), "((a or b) and not (c until no))"),
            (("not", ("and", ("not", A), B)), "not (not a and b)"), (("and", ("and", A, B), ("and", A, B)),
                                                                     "((a and b) and (a and b))"),
        ]:
            with self.subTest(text):
                self.assert_shown(show_sentence, read_sentence, sentence, text)

    def test_every_letter(self):
        for letter in ALL_LETTERS:
            self.assert_shown(show_sentence, read_sentence, ("lamp", letter), letter)

    def test_small_and_drawn_sentences_are_read_back(self):
        for sentence in all_sentences(3, [YES, NO, A, ("lamp", "z")]) + drawn_sentences(330, 400, range(4, 25), ALL_LETTERS):
            self.assert_shown(show_sentence, read_sentence, sentence, self.shown(sentence))

    def test_one_sign_more_less_or_other(self):
        # Most are none; those that are must show as the very same text again.
        for sentence in [YES, A, ("not", A), ("next", NO), ("and", A, B), ("always", ("then", A, ("not", B))),
                         ("or", ("and", A, YES), B), ("until", A, ("not", ("frees", NO, B)))]:
            good, bad = 0, 0
            for text in altered(show_sentence(sentence)):
                try:
                    told = read_sentence(text)
                except NoText:
                    bad += 1
                else:
                    good += 1
                    self.assertEqual(self.shown(told), text)
            self.assertLess(good, bad)

    def test_what_is_none(self):
        for text in [
            "", " ", "A", "ab", "aa", "lamp", "lamp a", "maybe", "yes ", " yes", "yes yes", "not", "not ", " not a", "not  a",
            "not a ", "nota", "Not a", "not not", "not (a)", "(a)", "(not a)", "()", "(", ")", "( )", "a and b", "(a and b",
            "a and b)", "((a and b)", "(a and b))", "((a and b))", "( a and b)", "(a and b )", "(a  and b)", "(a and  b)",
            "(a andb)", "(aand b)", "(a and)", "(and b)", "(and a b)", "(a b and)", "(a b)", "(a and b and c)", "(a not b)",
            "(a yes b)", "(a lamp b)", "[a and b]", "(a and b)c", "c(a and b)", "(a and b) c", "(a and b) and c", "not(a and b)",
            "(a)and(b)", "(a and (b)", ")a and b(", "(a and b(", "always", "until", "(until)", "a until", "(a until )", "1", "0",
            "-", "/", "a / b", "state a", "(a or b) ", " (a or b)", "yes\tno", "yes\n", "not\na", "(a and b)(a and b)",
        ]:
            self.assert_refused(read_sentence, text)

    def test_words_alone_and_with_a_part_too_many_or_too_few(self):
        for word, many in WORDS.items():
            for parts_there in range(4):
                prefix = " ".join([word] + ["a"] * parts_there)
                texts = ["(" + prefix + ")"] + ([prefix] if parts_there != many or many == 2 or word == "lamp" else [])
                for text in texts:
                    self.assert_refused(read_sentence, text)
            if many != 2:
                self.assert_refused(read_sentence, "(a " + word + " b)")

    def test_twenty_four_words_and_twenty_five(self):
        for word in ["not", "settles", "next"]:
            self.assert_shown(show_sentence, read_sentence, layers(word, 23, A), (word + " ") * 23 + "a")
            self.assert_refused(read_sentence, (word + " ") * 24 + "a")
        wide, text = A, "a"
        for _ in range(11):
            wide, text = ("until", wide, B), "(" + text + " until b)"
        self.assert_shown(show_sentence, read_sentence, ("not", wide), "not " + text)
        self.assert_refused(read_sentence, "not not " + text)
        self.assert_refused(read_sentence, "(" + text + " until b)")
        deep, text = A, "a"
        for _ in range(11):
            deep, text = ("or", YES, deep), "(yes or " + text + ")"
        self.assert_shown(show_sentence, read_sentence, ("not", deep), "not " + text)
        self.assert_refused(read_sentence, "(yes or " + text + ")")

    def test_brackets_too_many_or_too_few(self):
        for many in [1, 2, 24, 25, 99, 199]:
            self.assert_refused(read_sentence, "(" * many)
            self.assert_refused(read_sentence, ")" * many)
            self.assert_refused(read_sentence, "(" * many + "a")
            self.assert_refused(read_sentence, "a" + ")" * many)
        for many in [1, 2, 24, 25, 98]:
            self.assert_refused(read_sentence, "(" * many + "a" + ")" * many)
            self.assert_refused(read_sentence, "(" * (many + 1) + "a and b" + ")" * many)
            self.assert_refused(read_sentence, "(" * many + "a and b" + ")" * (many + 1))
        self.assert_refused(read_sentence, "(a or " * 30)
        self.assert_refused(read_sentence, "not " * 50)

    def test_what_is_no_text(self):
        for thing in NO_TEXTS:
            self.assert_refused(read_sentence, thing)


class RunTextTest(TextCase):
    def test_sign_by_sign(self):
        for run, text in [
            (([], ["a"]), "/ a"), (([], [""]), "/ -"), ((["a", "ab"], ["", "b"]), "a ab / - b"), (([""], [""]), "- / -"),
            ((["", "", "xyz"], ["a", "a", ""]), "- - xyz / a a -"), (([ALL_LETTERS], ["z"]), ALL_LETTERS + " / z"),
        ]:
            with self.subTest(text):
                self.assert_shown(show_run, read_run, run, text)

    def test_small_and_drawn_runs_are_read_back(self):
        source = random.Random(331)
        for run in small_runs(["", "a", "bc"], 2, 2) + [drawn_run(source, ["", "a", "z", "abc"], 9, 9) for _ in range(60)]:
            text = " ".join([moment or "-" for moment in run[0]] + ["/"] + [moment or "-" for moment in run[1]])
            self.assert_shown(show_run, read_run, run, text)

    def test_one_sign_more_less_or_other(self):
        for run in [([], ["a"]), ([], [""]), (["a", "ab"], ["", "b"]), (["", "bt"], ["x", "ay"])]:
            good, bad = 0, 0
            for text in altered(show_run(run)):
                try:
                    told = read_run(text)
                except NoText:
                    bad += 1
                else:
                    good += 1
                    self.assertEqual(" ".join([m or "-" for m in told[0]] + ["/"] + [m or "-" for m in told[1]]), text)
                    self.assertTrue(told[1])
            self.assertLess(good, bad)

    def test_what_is_none(self):
        for text in [
            "", " ", "a", "/", "a /", "/ ", "a / ", "a b", " / a", "/ a ", "a  / b", "a /  b", "a / b  c", "/a", "a/ b", "a /b",
            "a/b", "//", "/ /", "/ a /", "a / b / c", "/ A", "/ ba", "/ aa", "/ a-", "/ --", "/ -a", "- -", "/ 0", "a, b / c",
            "(a) / b", "A / a", "/ a\n", "/\ta", "ba / a", "/ a b  ", "  / a", "a / /", "\\ a",
        ]:
            self.assert_refused(read_run, text)

    def test_three_thousand_moments_and_more(self):
        for sign, moment in [("a", "a"), ("-", "")]:
            for stem_length, ring_length in [(3000, 1), (0, 3000), (3000, 900), (900, 3000)]:
                text = " ".join([sign] * stem_length + ["/"] + [sign] * ring_length)
                self.assertLessEqual(len(text), 8000)
                self.assert_shown(show_run, read_run, ([moment] * stem_length, [moment] * ring_length), text)
            self.assert_refused(read_run, " ".join([sign] * 3001 + ["/", sign]))
            self.assert_refused(read_run, " ".join(["/"] + [sign] * 3001))
            self.assert_refused(read_run, " ".join([sign] * 3001 + ["/"] + [sign] * 900))
        self.assert_refused(read_run, "/" * 8000)
        self.assert_refused(read_run, " " * 8000)
        self.assert_refused(read_run, "/ " * 4000)

    def test_what_is_no_text(self):
        for thing in NO_TEXTS:
            self.assert_refused(read_run, thing)

    def test_told_is_the_askers_own(self):
        self.assert_own(read_run, "a ab / - b")
        self.assert_own(read_run, "/ -")
        self.assert_lists_apart(read_run("a / a"))


class MachineTextTest(TextCase):
    ROUND = (["a", ""], [(0, 1), (1, 0)], [0], [[1]])
    TEXT = "state a; state -; way 0 1; way 1 0; from 0; mark 1"

    def shown(self, machine):
        lit, ways, starts, marks = machine
        rows = ["state " + (moment or "-") for moment in lit] + ["way {} {}".format(*way) for way in ways]
        rows += ["from {}".format(start) for start in starts]
        rows += [" ".join(["mark"] + [str(number) for number in mark]) for mark in marks]
        return "; ".join(rows)

    def test_sign_by_sign(self):
        for machine, text in [
            (self.ROUND, self.TEXT), (([""], [], [], []), "state -"), ((["abz"], [], [0], []), "state abz; from 0"),
            ((["a"], [(0, 0)], [], [[]]), "state a; way 0 0; mark"), ((["a"], [], [], [[], []]), "state a; mark; mark"),
            ((["a", "b", ""], [(2, 1), (0, 2)], [2, 0], [[1, 0], [], [0]]),
             "state a; state b; state -; way 2 1; way 0 2; from 2; from 0; mark 1 0; mark; mark 0"),
        ]:
            with self.subTest(text):
                self.assert_shown(show_machine, read_machine, machine, text)

    def test_drawn_machines_are_read_back(self):
        source = random.Random(332)
        for _ in range(150):
            machine = drawn_machine(source, 8, ["", "a", "ab", "z", ALL_LETTERS])
            self.assert_shown(show_machine, read_machine, machine, self.shown(machine))
            told = read_machine(self.shown(machine))
            self.assertEqual([type(part) for part in told], [list] * 4)
            self.assertTrue(all(type(way) is tuple for way in told[1]) and all(type(mark) is list for mark in told[3]))
            self.assert_lists_apart(told)

    def test_one_sign_more_less_or_other(self):
        for machine in [self.ROUND, ([""], [], [], []), (["ab"], [(0, 0)], [0], [[], [0]])]:
            good, bad = 0, 0
            for text in altered(show_machine(machine)):
                try:
                    told = read_machine(text)
                except NoText:
                    bad += 1
                else:
                    good += 1
                    self.assertEqual(self.shown(told), text)
            self.assertLess(10 * good, bad)

    def test_rows_in_another_order(self):
        rows = self.TEXT.split("; ")
        for place in range(len(rows) - 1):
            other = rows[:place] + [rows[place + 1], rows[place]] + rows[place + 2:]
            if rows[place].split()[0] != rows[place + 1].split()[0]:
                self.assert_refused(read_machine, "; ".join(other))
        for text in ["state a; way 0 0; state b", "state a; from 0; way 0 0", "state a; way 0 0; mark 0; from 0",
                     "from 0; state a", "way 0 0; state a", "mark; state a", "state a; from 0; state b", "state a; mark; from 0",
                     "state a; mark; way 0 0", "state a; state b; from 1; way 0 0; from 0"]:
            self.assert_refused(read_machine, text)

    def test_what_is_none(self):
        for text in [
            "", " ", ";", "; ", "state", "state ", "state  a", " state a", "state a ", "state a;", "state a; ", "; state a",
            "state a;; state b", "state a; ; state b", "state a;  state b", "state a;state b", "state a ; state b", "state A",
            "state ba", "state a b", "state 0", "state --", "State a", "states a", "statea", "a", "way 0 0", "from 0", "mark",
            "state a; way", "state a; way 0", "state a; way 0 0 0", "state a; way 0  0", "state a; way  0 0", "state a; way 0 0 ",
            "state a; way 0 1", "state a; way 1 0", "state a; way -1 0", "state a; way a 0", "state a; way 00 0",
            "state a; way 0 00", "state a; way +0 0", "state a; way 0,0", "state a; way (0 0)", "state a; from",
            "state a; from ", "state a; from 1", "state a; from 0 0", "state a; from 00", "state a; from -0", "state a; from a",
            "state a; from 0.0", "state a; from 0x0", "state a; from 0_0", "state a; from 0; from 0", "state a; mark ",
            "state a; mark 0", "state a; mark a", "state a; mark  ", "state a; way 0 0; mark 1", "state a; way 0 0; mark 0 0",
            "state a; way 0 0; mark 0  0", "state a; way 0 0; mark 00", "state a; way 0 0; mark 0 ", "state a; way 0 0; way 0 0",
            "state a; state b; way 0 01", "state a; state b; way 01 0", "state a; state b; from 01", "state a; what 0",
            "state a; way 0 0; mark -", "state a\n", "state a;\tstate b", "state a; way 0 0; mark 0; mark 0,0", "/ a", "yes",
            "state a, state b", "state a; way 0 b", "state a; way 0 -0",
        ]:
            self.assert_refused(read_machine, text)

    def test_a_nought_ahead_of_each_number(self):
        words = self.TEXT.split(" ")
        for place, word in enumerate(words):
            if word.strip(";").isdigit():
                self.assert_refused(read_machine, " ".join(words[:place] + ["0" + word] + words[place + 1:]))
                self.assert_refused(read_machine, " ".join(words[:place] + ["9" + word] + words[place + 1:]))
                self.assert_refused(read_machine, " ".join(words[:place] + ["1" * 59 + word] + words[place + 1:]))

    def test_numbers_of_sixty_figures(self):
        # Longer ones are promised nothing, but are refused no less.
        for number in [str(GREAT), "1" + "0" * 59, "0" * 60, "-" + str(GREAT), "1" * 61, "9" * 7000, "0" * 7000]:
            for text in ["state a; way 0 {}", "state a; way {} 0", "state a; from {}", "state a; way 0 0; mark {}",
                         "state a; way 0 0; mark 0 {}"]:
                self.assert_refused(read_machine, text.format(number))

    def test_eight_states_and_nine(self):
        self.assert_shown(show_machine, read_machine, (["a"] * 8, [(7, 7)], [7], []),
                          "; ".join(["state a"] * 8 + ["way 7 7", "from 7"]))
        self.assert_refused(read_machine, "; ".join(["state a"] * 9))
        self.assert_refused(read_machine, "; ".join(["state a"] * 8 + ["from 8"]))
        self.assert_refused(read_machine, "; ".join(["state a"] * 800))

    def test_twenty_four_ways_and_twenty_five(self):
        ways = [(begin, end) for begin in range(5) for end in range(5)]
        rows = ["state a"] * 5 + ["way {} {}".format(*way) for way in ways]
        self.assert_shown(show_machine, read_machine, (["a"] * 5, ways[:24], [0], [[23, 10]]),
                          "; ".join(rows[:-1] + ["from 0", "mark 23 10"]))
        self.assert_refused(read_machine, "; ".join(rows))
        self.assert_refused(read_machine, "; ".join(rows[:-1] + ["mark 24"]))
        self.assert_refused(read_machine, "; ".join(rows[:-1] + ["mark 023"]))

    def test_three_marks_and_four(self):
        for mark in ["mark", "mark 0"]:
            self.assert_shown(show_machine, read_machine, (["a"], [(0, 0)], [], [[0] if "0" in mark else []] * 3),
                              "; ".join(["state a", "way 0 0"] + [mark] * 3))
            self.assert_refused(read_machine, "; ".join(["state a", "way 0 0"] + [mark] * 4))

    def test_what_is_no_text(self):
        for thing in NO_TEXTS:
            self.assert_refused(read_machine, thing)

    def test_told_is_the_askers_own(self):
        self.assert_own(read_machine, self.TEXT)


class WalkTextTest(TextCase):
    def test_sign_by_sign(self):
        self.assert_told("0 1 / 2", show_walk, [0, 1], [2])
        self.assert_told("/ 0", show_walk, [], [0])
        self.assert_told("7 / 0 0 3", show_walk, [7], [0, 0, 3])
        self.assert_told("/ " + " ".join(["5", "6"] * 700), show_walk, [], [5, 6] * 700)
        self.assert_told(str(GREAT) + " / 10", show_walk, [GREAT], [10])


if __name__ == "__main__":
    unittest.main()
