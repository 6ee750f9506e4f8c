import random
import unittest

from helper import (A, B, OTHER_KINDS, YES, Case, book_for, drawn_machine, drawn_run, drawn_sentences, nested, truths,
                    walks)

from lassoscribe.desk import Desk
from lassoscribe.errors import NoName, NoRow, NoText, ScribeError, TooMuch
from lassoscribe.frees import possible, same, within
from lassoscribe.guards import guard
from lassoscribe.held import held
from lassoscribe.texts import read_run, show_machine, show_run, show_sentence
from lassoscribe.watch import Watch

# Six waits, five waits, and four lamps.
SIX, FIVE, LAMPS = "next " * 6 + "a", "next " * 5 + "a", "((a or b) and (c or d))"
ROUND = "state a; state -; way 0 1; way 1 0; way 1 1; from 0"


class DeskCase(Case):
    def desk(self, *rows):
        desk = Desk()
        for row in rows:
            desk.say(row)
        return desk

    def assert_say(self, desk, row, answer):
        with self.subTest(row[:80]):
            self.assert_same(desk.say(row), answer)

    def assert_refused(self, desk, row, error):
        """Refused by just this error, and nothing is changed by it."""
        with self.subTest(repr(row)[:80]):
            before, told = self.all_of(desk), repr(row)
            with self.assertRaises(error):
                desk.say(row)
            self.assertTrue(repr(row) == told)
            self.assert_same(self.all_of(desk), before)

    def all_of(self, desk):
        """What the desk shows by each name that these tests put something by."""
        shown = {}
        for name in ["s", "t", "six", "five", "four", "r", "m", "w", "v", "x", "n", "abcdefgh"]:
            for word in ["show", "goings", "seen"]:
                try:
                    shown[name, word] = desk.say(word + " " + name)
                except NoName:
                    shown[name, word] = None
        return shown

    def full(self):
        return self.desk("sentence s (a until b)", "sentence t atlast b", "sentence six " + SIX, "sentence five " + FIVE,
                         "sentence four " + LAMPS, "run r a a / b", "machine m " + ROUND, "watch w s", "see w a")


class RowsTest(DeskCase):
    def test_sentence_run_machine_and_show(self):
        desk = Desk()
        for row, text in [("sentence s", "always (a then next atlast not b)"), ("run r", "a ab / - b"), ("run q", "/ a"),
                          ("machine m", "state a; state -; way 0 1; way 1 0; from 0; mark 1"), ("machine k", "state -; mark"),
                          ("sentence y", "yes")]:
            self.assert_say(desk, row + " " + text, "ok")
            self.assert_say(desk, "show " + row.split()[1], text)
        self.assert_say(desk, "show s", "always (a then next atlast not b)")

    def test_drop(self):
        desk = self.full()
        for name in ["s", "r", "m", "w"]:
            self.assert_say(desk, "drop " + name, "ok")
            self.assert_refused(desk, "show " + name, NoName)
            self.assert_refused(desk, "drop " + name, NoName)
        self.assert_refused(desk, "true s r", NoName)
        self.assert_refused(desk, "see w a", NoName)
        self.assert_say(desk, "show t", "atlast b")

    def test_true(self):
        desk = self.full()
        self.assert_say(desk, "true s r", "yes")
        self.assert_say(desk, "run r a - / b", "ok")
        self.assert_say(desk, "true s r", "no")
        self.assert_say(desk, "true t r", "yes")
        # What has many waits or lamps is read on a run all the same.
        self.assert_say(desk, "true six r", "no")
        self.assert_say(desk, "true four r", "no")

    def test_held(self):
        desk = self.desk("machine m " + ROUND, "sentence s again a", "sentence t atlast a", "sentence f " + FIVE,
                         "sentence l (((a or b) or (c or d)) or yes)", "machine n state a; way 0 0; from 0")
        answer = desk.say("held m s")
        self.assertEqual(answer.partition(" ")[0], "breaks")
        stem, ring = [[int(word) for word in part.split()] for part in answer.partition(" ")[2].split("/")]
        self.assertTrue(walks((["a", ""], [(0, 1), (1, 0), (1, 1)], [0], []), stem, ring))
        self.assertFalse(truths(("again", A), ([["a", ""][q] for q in stem], [["a", ""][q] for q in ring]))[0])
        self.assert_say(desk, "held m t", "holds")
        self.assert_say(desk, "held n s", "holds")
        self.assert_say(desk, "held n f", "holds")
        self.assert_say(desk, "held m l", "holds")
        self.assert_say(desk, "machine n state -; way 0 0; from 0", "ok")
        self.assert_say(desk, "held n s", "breaks / 0")

    def test_possible(self):
        desk = self.desk("sentence a a", "sentence n (a and not a)", "sentence y yes", "sentence no no")
        word, blank, text = desk.say("possible a").partition(" ")
        self.assertEqual((word, blank), ("run", " "))
        self.assertTrue(truths(A, read_run(text))[0])
        self.assert_say(desk, "possible n", "none")
        self.assert_say(desk, "possible no", "none")
        self.assertEqual(desk.say("possible y").partition(" ")[0], "run")

    def test_same_and_within(self):
        desk = self.desk("sentence s atlast a", "sentence t (yes until a)", "sentence u a", "sentence v always a")
        self.assert_say(desk, "same s t", "same")
        self.assert_say(desk, "same s s", "same")
        self.assert_say(desk, "within s t", "within")
        self.assert_say(desk, "within v u", "within")
        for row, one, other in [("same u s", A, ("atlast", A)), ("same s v", ("atlast", A), ("always", A)),
                                ("within s u", ("atlast", A), A), ("within u v", A, ("always", A))]:
            word, blank, text = desk.say(row).partition(" ")
            self.assertEqual((word, blank), ("parted", " "))
            run = read_run(text)
            self.assertNotEqual(truths(one, run)[0], truths(other, run)[0])
            if row.startswith("within"):
                self.assertTrue(truths(one, run)[0])

    def test_guard(self):
        desk = self.desk("sentence s always a", "sentence t atlast a", "sentence f " + "next " * 4 + "a")
        self.assert_say(desk, "guard s", "guard")
        self.assert_say(desk, "guard f", "guard")
        word, blank, text = desk.say("guard t").partition(" ")
        self.assertEqual((word, blank), ("loose", " "))
        self.assertFalse(truths(("atlast", A), read_run(text))[0])

    def test_watch_see_goings_seen(self):
        desk = self.desk("sentence s (a until b)", "sentence y yes", "sentence n no")
        self.assert_say(desk, "watch y y", "yes")
        self.assert_say(desk, "watch n n", "no")
        self.assert_say(desk, "watch w s", "open")
        self.assert_say(desk, "seen w", "")
        for row, answer, seen in [("see w a", "open", "a"), ("see w acz", "open", "a acz"), ("see w -", "no", "a acz -"),
                                  ("see w b", "no", "a acz - b")]:
            self.assert_say(desk, row, answer)
            self.assert_say(desk, "seen w", seen)
        self.assert_say(desk, "watch w s", "open")
        self.assert_say(desk, "seen w", "")
        self.assert_say(desk, "see w b", "yes")

    def test_goings(self):
        desk = self.desk("sentence s (a until b)", "watch w s")
        for sign, has_true, has_false in [("", True, True), ("a", True, True), ("b", True, False), ("-", True, False)]:
            if sign:
                desk.say("see w " + sign)
            signs = [word.strip("-") for word in desk.say("seen w").split()]
            parts = desk.say("goings w").split("; ")
            self.assertEqual(len(parts), 2)
            for text, truth, there in [(parts[0], True, has_true), (parts[1], False, has_false)]:
                self.assertEqual(text != "none", there)
                if there:
                    stem, ring = read_run(text)
                    self.assertIs(truths(("until", A, B), (signs + stem, ring))[0], truth)
        desk = self.desk("sentence n no", "watch w n")
        self.assertRegex(desk.say("goings w"), r"^none; ([-a-z]+ )*/( [-a-z]+)+$")
        desk = self.desk("sentence y yes", "watch w y")
        self.assertRegex(desk.say("goings w"), r"^([-a-z]+ )*/( [-a-z]+)+; none$")

    def test_answers_are_those_of_the_functions(self):
        source = random.Random(340)
        sentences = [sentence for sentence in drawn_sentences(341, 150, range(1, 14))
                     if len(book_for(sentence).waits) <= 4 and len(book_for(sentence).lamps) <= 3]
        for one, other in zip(sentences, sentences[1:]):
            machine, run = drawn_machine(source, 4, ["", "a", "b", "c"]), drawn_run(source, ["", "a", "b", "ab"], 3, 3)
            desk = self.desk("sentence s " + show_sentence(one), "sentence t " + show_sentence(other),
                             "run r " + show_run(run), "machine m " + show_machine(machine))
            self.assert_say(desk, "show s", show_sentence(one))
            self.assert_say(desk, "show r", show_run(run))
            self.assert_say(desk, "show m", show_machine(machine))
            self.assert_say(desk, "true s r", "yes" if truths(one, run)[0] else "no")
            self.assertEqual(desk.say("held m s").split()[0], held(machine, one)[0])
            self.assertEqual(desk.say("possible s").split()[0], possible(one)[0])
            self.assertEqual(desk.say("guard s").split()[0], guard(one)[0])
            watch = Watch(one)
            self.assert_say(desk, "watch w s", watch.says())
            for sign in run[0] + run[1]:
                self.assert_say(desk, "see w " + (sign or "-"), watch.see(sign))
            if len(book_for(one, other).waits) <= 5 and len(book_for(one, other).lamps) <= 3:
                self.assertEqual(desk.say("same s t").split()[0], same(one, other)[0])
                self.assertEqual(desk.say("within s t").split()[0], within(one, other)[0])


class NamesTest(DeskCase):
    def test_names_of_one_to_eight_letters(self):
        desk = Desk()
        for name in ["a", "z", "ab", "abcdefg", "abcdefgh", "zzzzzzzz", "run", "sentence", "none", "new"]:
            self.assert_say(desk, "sentence " + name + " a", "ok")
            self.assert_say(desk, "show " + name, "a")
            self.assert_say(desk, "drop " + name, "ok")

    def test_names_that_are_none(self):
        desk = self.full()
        for name in ["", "abcdefghi", "A", "aB", "a1", "1", "-", "a-", "a_b", "_", "/", "(", "a;", "ABCDEFGH", "z" * 100]:
            for row in ["sentence {} a", "run {} / a", "machine {} state a", "drop {}", "show {}", "true {} r", "true s {}",
                        "held {} s", "held m {}", "possible {}", "same {} s", "same s {}", "within {} s", "within s {}",
                        "guard {}", "watch {} s", "watch n {}", "see {} a", "goings {}", "seen {}"]:
                self.assert_refused(desk, row.format(name), NoName)

    def test_names_by_which_nothing_of_the_sort_stands(self):
        desk = self.full()
        for row in ["drop x", "show x", "true x r", "true s x", "held x s", "held m x", "possible x", "same x s", "same s x",
                    "within x s", "within s x", "guard x", "watch n x", "see x a", "goings x", "seen x", "true r s", "true s s",
                    "true r r", "true m r", "true s m", "true s w", "true w r", "held s m", "held m m", "held s s", "held r s",
                    "held m r", "held w s", "possible r", "possible m", "possible w", "same s r", "same r s", "same m s",
                    "same s w", "within s r", "within r s", "within w s", "guard r", "guard m", "guard w", "watch n r",
                    "watch n m", "watch n w", "see s a", "see r a", "see m a", "goings s", "goings r", "goings m", "seen s",
                    "seen r", "seen m", "show w"]:
            self.assert_refused(desk, row, NoName)

    def test_a_thing_put_where_another_stood(self):
        texts = {"sentence": "(a or b)", "run": "a / b", "machine": "state a; from 0"}
        for first in texts:
            for second in texts:
                desk = self.desk(first + " x " + texts[first], second + " x " + texts[second])
                self.assert_say(desk, "show x", texts[second])
                self.assert_say(desk, "drop x", "ok")
                self.assert_refused(desk, "show x", NoName)
            desk = self.desk("sentence s a", first + " x " + texts[first], "watch x s")
            self.assert_refused(desk, "show x", NoName)
            self.assert_say(desk, "seen x", "")
            self.assert_say(desk, first + " x " + texts[first], "ok")
            self.assert_refused(desk, "seen x", NoName)
            self.assert_say(desk, "show x", texts[first])
        desk = self.desk("sentence x a", "run x / a")
        self.assert_refused(desk, "true x x", NoName)
        self.assert_refused(desk, "possible x", NoName)

    def test_a_watch_keeps_its_sentence(self):
        desk = self.desk("sentence s (a until b)", "watch w s", "watch v s")
        self.assert_say(desk, "see w a", "open")
        self.assert_say(desk, "sentence s no", "ok")
        self.assert_say(desk, "see w a", "open")
        self.assert_say(desk, "drop s", "ok")
        self.assert_say(desk, "see w b", "yes")
        self.assert_say(desk, "run s / a", "ok")
        self.assert_say(desk, "see w -", "yes")
        self.assert_say(desk, "seen w", "a a b -")
        self.assert_say(desk, "see v -", "no")
        self.assert_say(desk, "seen v", "-")

    def test_a_watch_put_by_its_sentences_name(self):
        desk = self.desk("sentence s always a", "watch s s")
        self.assert_say(desk, "see s a", "open")
        self.assert_say(desk, "see s -", "no")
        self.assert_refused(desk, "possible s", NoName)

    def test_two_desks_beside_each_other(self):
        one, other = self.desk("sentence s a", "watch w s"), self.desk("sentence s b", "watch w s")
        self.assert_say(one, "see w a", "yes")
        self.assert_say(other, "seen w", "")
        self.assert_say(other, "see w a", "no")
        self.assert_say(one, "drop s", "ok")
        self.assert_say(other, "show s", "b")
        self.assert_refused(Desk(), "show s", NoName)


class RefusalsTest(DeskCase):
    def test_what_is_no_text(self):
        desk = self.full()
        for thing in OTHER_KINDS + [nested(100), ["show", "s"], ("show", "s"), [["show s"]], {"show": "s"}, YES]:
            self.assert_refused(desk, thing, NoRow)

    def test_unknown_words(self):
        desk = self.full()
        for row in ["", " ", "  ", "Show s", "SHOW s", "shows s", "sho s", "s", "put s a", "sentences s a", "- s", "show\ts", "help",
                    "show;s", "ok", "watches w", "closing s", "a" * 8000, " " * 8000]:
            self.assert_refused(desk, row, NoRow)

    def test_words_too_few_and_too_many(self):
        desk = self.full()
        for row in ["drop s", "show s", "true s r", "held m s", "possible s", "same s s", "within s s", "guard s", "watch v s",
                    "see w a", "goings w", "seen w"]:
            words = row.split(" ")
            for many in range(1, len(words)):
                self.assert_refused(desk, " ".join(words[:many]), NoRow)
            for more in [" s", " r", " a", " -", " s s s"]:
                self.assert_refused(desk, row + more, NoRow)

    def test_two_blanks_and_a_blank_at_an_end(self):
        desk = self.full()
        for row in ["drop s", "show s", "true s r", "held m s", "possible s", "same s s", "within s s", "guard s", "watch v s",
                    "see w a", "goings w", "seen w"]:
            words = row.split(" ")
            self.assert_refused(desk, row + " ", NoRow)
            self.assert_refused(desk, row + "  ", NoRow)
            self.assert_refused(desk, " " + row, NoRow)
            for place in range(1, len(words)):
                self.assert_refused(desk, " ".join(words[:place] + [""] + words[place:]), NoRow)

    def test_a_word_without_signs(self):
        desk = self.full()
        # So many words as there ought to be, but one of them has no signs.
        for row in ["drop ", "show ", "true  r", "true s ", "held  s", "held m ", "possible ", "same  s", "same s ", "within  s",
                    "within s ", "guard ", "watch  s", "watch v ", "see  a", "goings ", "seen ", "sentence  a", "run  / a",
                    "machine  state a", "sentence  ", "run  ", "machine  "]:
            self.assert_refused(desk, row, NoName)
        self.assert_refused(desk, "see w ", NoText)

    def test_rows_with_a_text_too_short(self):
        desk = self.full()
        for word in ["sentence", "run", "machine"]:
            for row in [word, word + " ", word + " s", word + " S", word + " abcdefghi"]:
                self.assert_refused(desk, row, NoRow)
            # With the blank behind the name there is a text, though an empty one.
            self.assert_refused(desk, word + " s ", NoText)
            self.assert_refused(desk, word + " S ", NoName)

    def test_texts_that_are_none(self):
        desk = self.full()
        for row in ["sentence s A", "sentence s  a", "sentence s a ", "sentence s (a and b", "sentence s not", "sentence s / a",
                    "sentence s " + "not " * 24 + "a", "sentence n lamp a", "sentence n state a", "run r a", "run r / ", "run r  / a",
                    "run r / a ", "run r a b / ba", "run n yes", "run r /", "machine m state A", "machine m state a; ",
                    "machine m  state a", "machine m from 0", "machine m state a; from 00", "machine n yes", "machine n / a",
                    "see w A", "see w ba", "see w aa", "see w --", "see w -a", "see w /", "see w 0", "see w yes;",
                    "run r " + " ".join(["a"] * 3001) + " / a"]:
            self.assert_refused(desk, row, NoText)

    def test_too_much(self):
        desk = self.full()
        for row in ["held m six", "possible six", "same six s", "same s six", "within six s", "within s six", "guard six",
                    "guard five", "watch v six", "watch w six", "watch s six", "possible four", "same four s", "same s four",
                    "within four s", "guard four", "watch v four", "same five s", "within s five"]:
            self.assert_refused(desk, row, TooMuch)
        self.assertEqual(desk.say("held m four").partition(" ")[0], "breaks")
        for row in ["possible five", "watch n five", "same five five"]:
            desk.say(row)

    def test_two_refusals_due(self):
        desk = self.full()
        for row, error in [
            ("shw X y z", NoRow), ("show X y", NoRow), ("held m x six", NoRow), ("see x A B", NoRow), ("watch X six s", NoRow),
            ("sentence X", NoRow), ("sentence x", NoRow), ("same six", NoRow), ("guard six six", NoRow), ("see w A ", NoRow),
            ("sentence X A", NoName), ("sentence  A", NoName), ("run abcdefghi a", NoName), ("machine M ", NoName),
            ("see x A", NoName), ("see s A", NoName), ("see W ba", NoName), ("see  ", NoName), ("watch X six", NoName),
            ("watch X x", NoName), ("watch  six", NoName), ("held x six", NoName), ("held s six", NoName), ("same six x", NoName),
            ("same X six", NoName), ("within six r", NoName), ("within r six", NoName), ("sentence X " + "not " * 30, NoName),
        ]:
            self.assert_refused(desk, row, error)

    def test_what_is_refused_changes_nothing_of_a_watch(self):
        desk = self.full()
        for row in ["see w A", "see w", "see w a a", "watch w six", "watch w x", "watch w", "sentence w A", "run w a", "drop w w"]:
            with self.assertRaises(ScribeError):
                desk.say(row)
        self.assert_say(desk, "seen w", "a")
        self.assert_say(desk, "see w b", "yes")

    def test_the_longest_texts(self):
        desk = Desk()
        run = " ".join(["a"] * 3000 + ["/"] + ["b"] * 990)
        self.assert_say(desk, "run r " + run, "ok")
        self.assert_say(desk, "show r", run)
        sentence = "settles " * 22 + "not yes"
        self.assert_say(desk, "sentence s " + sentence, "ok")
        self.assert_say(desk, "show s", sentence)
        self.assert_say(desk, "true s r", "no")
        self.assert_refused(desk, "sentence s " + "(" * 190, NoText)


if __name__ == "__main__":
    unittest.main()
