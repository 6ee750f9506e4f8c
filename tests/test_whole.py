"""The promise over the whole program: one run and one sentence by all roads, and the answers side by side."""

import random
import unittest

from helper import (A, B, C, NO, YES, Case, all_sentences, book_for, drawn_machine, drawn_run, drawn_sentences, layers,
                    small_runs, truths, walks)

from lassoscribe.books import book_of
from lassoscribe.desk import Desk
from lassoscribe.frees import possible, same, within
from lassoscribe.guards import closing, guard
from lassoscribe.held import held, shuts_out
from lassoscribe.machines import lit_along, machine_of
from lassoscribe.plains import plain
from lassoscribe.readings import places_true, reading, true_on
from lassoscribe.runs import ahead, dimmed, least, thinned
from lassoscribe.texts import read_run, read_sentence, show_run, show_sentence
from lassoscribe.watch import Watch
from lassoscribe.watchers import takes, watcher

MOMENTS = ["", "a", "b", "ab", "c", "ac", "bz"]


def within_bounds(*sentences):
    book = book_for(*sentences)
    return len(book.waits) <= 5 and len(book.lamps) <= 3


class AllRoadsTest(Case):
    def by_reading(self, sentence, run):
        rows, spots = book_of([plain(sentence)])
        return reading(rows, run)[0][spots[0]]

    def by_desk(self, sentence, run):
        desk = Desk()
        desk.say("sentence s " + show_sentence(sentence))
        desk.say("run r " + show_run(run))
        return {"yes": True, "no": False}[desk.say("true s r")]

    def assert_all_roads(self, sentence, run):
        truth = truths(sentence, run)[0]
        denial = ("not", sentence)
        self.assertIs(true_on(sentence, run), truth)
        self.assertIs(true_on(denial, run), not truth)
        self.assertIs(places_true(sentence, least(run))[0], truth)
        self.assertIs(self.by_reading(sentence, run), truth)
        self.assertEqual(takes(watcher(sentence), run)[0], "taken" if truth else "left")
        self.assertEqual(takes(watcher(denial), run)[0], "left" if truth else "taken")
        self.assertEqual(held(machine_of(run), sentence)[0], "holds" if truth else "breaks")
        self.assertEqual(held(machine_of(run), denial)[0], "breaks" if truth else "holds")
        self.assertEqual(possible(sentence if truth else denial)[0], "run")
        self.assertIs(self.by_desk(sentence, run), truth)
        self.assert_watch_agrees(sentence, run, truth)
        return truth

    def assert_watch_agrees(self, sentence, run, truth):
        watch, desk = Watch(sentence), Desk()
        desk.say("sentence s " + show_sentence(sentence))
        said = [watch.says()]
        self.assertEqual(desk.say("watch w s"), said[0])
        for sign in run[0] + run[1] + run[1]:
            said.append(watch.see(sign))
            self.assertEqual(desk.say("see w " + (sign or "-")), said[-1])
        self.assertNotIn("no" if truth else "yes", said)

    def test_small_sentences_on_small_runs(self):
        runs = small_runs(["", "a"], 1, 2) + [(["b"], ["a", ""]), (["ab", ""], ["b", "a", "a"])]
        for sentence in all_sentences(2, [YES, NO, A]) + [(word, A, B) for word in ["and", "or", "then", "until", "frees"]]:
            for run in runs:
                self.assert_all_roads(sentence, run)

    def test_drawn_sentences_on_drawn_runs(self):
        source = random.Random(350)
        found = {True: 0, False: 0}
        for sentence in drawn_sentences(351, 420, range(3, 22)):
            if within_bounds(sentence):
                found[self.assert_all_roads(sentence, drawn_run(source, MOMENTS, 4, 4))] += 1
        self.assertGreater(min(found.values()), 50)

    def test_sentences_of_five_waits_and_three_lamps(self):
        source = random.Random(352)
        for sentence in [("and", layers("again", 2, A), ("next", ("or", B, C))), layers("next", 5, ("and", A, ("or", B, C))),
                         ("or", layers("settles", 2, A), ("always", ("then", B, C))),
                         ("then", ("and", ("again", A), ("again", B)), ("always", ("then", C, ("atlast", B)))),
                         ("and", ("until", A, B), ("and", ("until", B, C), ("and", ("until", C, A), ("atlast", ("next", C)))))]:
            book = book_for(sentence)
            self.assertEqual((len(book.waits), len(book.lamps)), (5, 3))
            for _ in range(8):
                self.assert_all_roads(sentence, drawn_run(source, MOMENTS, 4, 4))

    def test_without_next_a_run_may_be_thinned(self):
        source = random.Random(353)
        known = ("yes", "lamp", "not", "and", "or", "then", "until", "frees", "atlast", "always", "again", "settles")
        for sentence in drawn_sentences(354, 120, range(2, 16), "abc", known):
            if within_bounds(sentence):
                run = drawn_run(source, ["", "a", "b"], 5, 3)
                short = thinned(dimmed(run, book_for(sentence).lamps))
                self.assertIs(truths(sentence, short)[0], truths(sentence, run)[0])
                self.assertEqual(takes(watcher(sentence), short)[0], takes(watcher(sentence), run)[0])


class AnswersSideBySideTest(Case):
    def test_what_breaks_and_what_holds(self):
        source = random.Random(360)
        found = {"holds": 0, "breaks": 0}
        for sentence in drawn_sentences(361, 400, range(3, 20)):
            if not within_bounds(sentence):
                continue
            machine = drawn_machine(source, 4, ["", "a", "b", "ab", "cz"])
            told = held(machine, sentence)
            found[told[0]] += 1
            if told[0] == "holds":
                self.assertTrue(shuts_out(machine, sentence, told[1]))
                other = held(machine, ("not", sentence))
                # Where both are held, there is no walk at all.
                self.assertEqual(other[0], "breaks" if held(machine, NO)[0] == "breaks" else "holds")
            else:
                self.assertTrue(walks(machine, told[1], told[2]))
                run = lit_along(machine, told[1], told[2])
                self.assertFalse(truths(sentence, run)[0])
                self.assertEqual(takes(watcher(sentence), run)[0], "left")
                self.assertEqual(possible(("not", sentence))[0], "run")
                self.assertEqual(same(sentence, YES)[0], "parted")
        self.assertGreater(min(found.values()), 50)

    def test_sentences_beside_yes_no_and_their_denials(self):
        for sentence in drawn_sentences(362, 300, range(2, 20)):
            if within_bounds(sentence):
                is_possible = possible(sentence)[0] == "run"
                is_sure = possible(("not", sentence))[0] == "none"
                self.assertEqual(same(sentence, NO)[0], "parted" if is_possible else "same")
                self.assertEqual(same(sentence, YES)[0], "same" if is_sure else "parted")
                self.assertEqual(within(sentence, NO)[0], "parted" if is_possible else "within")
                self.assertEqual(within(YES, sentence)[0], "within" if is_sure else "parted")
                self.assertEqual(same(sentence, ("not", sentence))[0], "parted")
                self.assertEqual(Watch(sentence).says(), "yes" if is_sure else "open" if is_possible else "no")

    def test_a_watch_agrees_with_what_is_possible_behind_the_signs(self):
        # The signs seen, told as a sentence of nexts: two signs of lamps a and b.
        def shows(sign, letters):
            lit = [("lamp", letter) if letter in sign else ("not", ("lamp", letter)) for letter in letters]
            return ("and", lit[0], lit[1])

        for sentence in drawn_sentences(363, 260, range(2, 9), "ab"):
            for one in ["", "a", "b", "ab"]:
                begun = ("and", shows(one, "ab"), sentence)
                if within_bounds(begun, ("not", sentence)):
                    said = Watch(sentence).see(one)
                    can_be = possible(begun)[0] == "run"
                    can_fail = possible(("and", shows(one, "ab"), ("not", sentence)))[0] == "run"
                    self.assertEqual(said, "open" if can_be and can_fail else "yes" if can_be else "no")

    def test_goings_put_ahead_of_a_watch_part_the_ways(self):
        source = random.Random(364)
        for sentence in drawn_sentences(365, 250, range(3, 18)):
            if within_bounds(sentence):
                watch, signs = Watch(sentence), [source.choice(MOMENTS) for _ in range(3)]
                for sign in signs:
                    watch.see(sign)
                for going, word in zip(watch.goings(), ["taken", "left"]):
                    if going is not None:
                        self.assertEqual(takes(watcher(sentence), ahead(signs, going))[0], word)

    def test_guards_beside_their_closings(self):
        found = {"guard": 0, "loose": 0}
        source = random.Random(366)
        for sentence in drawn_sentences(367, 500, range(2, 16)):
            if within_bounds(sentence) and len(book_for(sentence).waits) <= 4:
                told = guard(sentence)
                found[told[0]] += 1
                if told[0] == "loose":
                    self.assertEqual(takes(closing(sentence), told[1])[0], "taken")
                    self.assertEqual(takes(watcher(sentence), told[1])[0], "left")
                else:
                    run = drawn_run(source, MOMENTS, 3, 4)
                    self.assertEqual(takes(closing(sentence), run)[0], takes(watcher(sentence), run)[0])
        self.assertGreater(min(found.values()), 30)

    def test_texts_and_things_go_together(self):
        for sentence in drawn_sentences(368, 200, range(2, 20)):
            if within_bounds(sentence):
                told = possible(read_sentence(show_sentence(sentence)))
                if told[0] == "run":
                    self.assertTrue(truths(sentence, read_run(show_run(told[1])))[0])


if __name__ == "__main__":
    unittest.main()
