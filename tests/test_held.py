import itertools
import random
import unittest

from helper import (A, B, C, NO, NO_SENTENCES, OTHER_KINDS, YES, Case, all_sentences, book_for, drawn_machine,
                    drawn_run, drawn_sentences, is_paper_over, layers, small_runs, truths, walks)

from lassoscribe.errors import NoMachine, NoSentence, TooMuch
from lassoscribe.held import held, shuts_out
from lassoscribe.machines import machine_of

GREAT = 10 ** 60 - 1
NO_MACHINES = OTHER_KINDS + [
    "", "state a", ([], [], [], []), (["a"], [], []), (["a"], [], [], [], []), [["a"], [], [], []], (["A"], [], [], []),
    (["a"], [(0, 1)], [], []), (["a"], [], [1], []), (["a"], [], [True], []), (["a"], [], [], [[0]]),
    (["a"], [(0, 0), (0, 0)], [], []), (["a"] * 9, [], [], []), (["a"], [], [], [[]] * 4), (["a"], [], [0, 0], []),
]
# There and back between lit and dark, or staying at either.
SWITCH = (["a", ""], [(0, 1), (1, 0), (0, 0), (1, 1)], [0], [])


def pairs_of(machine, sentence):
    """The beginnings, the steps and the marks of point 25, worked out by the test itself."""
    lit, ways, starts, marks = machine
    book = book_for(sentence)
    begun = [(state, claims) for state in starts for claims in book.claims if not book.says(lit[state], claims)]
    steps = []
    for number, (begin, end) in enumerate(ways):
        marked = [mark for mark, some in enumerate(marks) if number in some]
        for claims in book.claims:
            view, before, eased = book.look(lit[end], claims)
            steps.append(((begin, before), (end, claims), marked + [len(marks) + hope for hope in eased]))
    return begun, steps, len(marks) + len(book.hopes)


def is_its_paper(machine, sentence, rows):
    begun, steps, marks = pairs_of(machine, sentence)
    kept = {(state, claims): (rank, lack) for state, claims, rank, lack in rows}
    return len(kept) == len(rows) and is_paper_over(kept, begun, steps, marks)


class HeldCase(Case):
    def assert_held(self, machine, sentence, expected=None):
        told = self.ask(held, machine, sentence)
        self.assertIs(type(told), tuple)
        self.assertEqual([type(part) for part in told[1:]], [list] * (len(told) - 1))
        if told[0] == "breaks":
            self.assertEqual(len(told), 3)
            self.assert_breaks(machine, sentence, told[1], told[2])
        else:
            self.assertEqual((told[0], len(told)), ("holds", 2))
            self.assert_holds(machine, sentence, told[1])
        if expected is not None:
            self.assertEqual(told[0], expected)
        return told[0]

    def assert_breaks(self, machine, sentence, stem, ring):
        self.assertTrue(all(type(state) is int for state in stem + ring))
        self.assertTrue(walks(machine, stem, ring), (machine, stem, ring))
        run = ([machine[0][state] for state in stem], [machine[0][state] for state in ring])
        self.assertFalse(truths(sentence, run)[0])
        book = book_for(sentence)
        pairs = len(machine[0]) * len(book.claims)
        self.assertLess(len(stem), pairs)
        self.assertLessEqual(len(ring), pairs * (len(machine[3]) + len(book.hopes) + 1))

    def assert_holds(self, machine, sentence, paper):
        many = len(book_for(sentence).waits)
        for part in paper:
            self.assertTrue(type(part) is tuple and len(part) == 4)
            state, claims, rank, lack = part
            self.assertTrue(type(state) is int and 0 <= state < len(machine[0]))
            self.assertTrue(type(claims) is tuple and [type(claim) for claim in claims] == [bool] * many)
            self.assert_rank_and_lack(rank, lack)
        self.assertTrue(is_its_paper(machine, sentence, paper), (machine, sentence, paper))
        self.assert_told(True, shuts_out, machine, sentence, paper)


class HeldTest(HeldCase):
    def test_yes_and_no(self):
        for machine in [SWITCH, (["a"], [(0, 0)], [0], []), (["a"], [(0, 0)], [0], [[0]])]:
            self.assert_held(machine, YES, "holds")
            self.assert_held(machine, NO, "breaks")

    def test_without_walks_all_is_held(self):
        for machine in [(["a"], [], [], []), (["a"], [], [0], []), (["a", "b"], [(0, 0), (1, 1)], [], []),
                        (["a", "b"], [(0, 1)], [0], []), (["a"], [(0, 0)], [0], [[]]),
                        (["a", "b"], [(0, 0), (0, 1), (1, 1)], [0], [[1]]),
                        (["a", "b"], [(0, 0), (1, 0), (1, 1)], [0, 1], [[0], [2]])]:
            for sentence in [YES, NO, A, ("not", A), ("next", NO), ("again", B), ("always", A), ("atlast", NO)]:
                self.assert_held(machine, sentence, "holds")

    def test_by_hand(self):
        for sentence, expected in [
            (A, "holds"), (("not", A), "breaks"), (("next", A), "breaks"), (("next", ("not", A)), "breaks"),
            (("again", A), "breaks"), (("settles", A), "breaks"), (("or", ("again", A), ("settles", ("not", A))), "holds"),
            (("until", A, ("not", A)), "breaks"), (("frees", ("not", A), YES), "holds"), (("atlast", A), "holds"),
            (("always", ("or", A, ("not", A))), "holds"), (("atlast", ("always", A)), "breaks"), (("always", A), "breaks"),
        ]:
            with self.subTest(repr(sentence)):
                self.assert_held(SWITCH, sentence, expected)

    def test_marks_shut_walks_out(self):
        lit, ways, starts, _ = SWITCH
        for marks, sentence, expected in [
            ([[0]], ("again", A), "holds"), ([[0]], ("again", ("not", A)), "holds"), ([[3]], ("again", A), "breaks"),
            ([[3]], ("again", ("not", A)), "holds"), ([[2], [3]], ("again", A), "holds"), ([[2, 3]], ("again", A), "breaks"),
            ([[2]], ("settles", A), "breaks"), ([[1], [2], [3]], ("atlast", ("not", A)), "holds"),
            ([[0, 1]], ("again", ("and", A, ("next", ("not", A)))), "holds"), ([[0], []], NO, "holds"),
            ([[1]], ("always", ("atlast", ("and", ("not", A), ("next", A)))), "holds"),
            ([[0]], ("next", ("not", A)), "breaks"), ([[0]], ("again", ("and", A, ("next", A))), "breaks"),
        ]:
            with self.subTest(marks=marks, sentence=repr(sentence)):
                self.assert_held((lit, ways, starts, marks), sentence, expected)

    def test_each_start_counts(self):
        for starts, expected in [([], "holds"), ([0], "holds"), ([1], "breaks"), ([0, 1], "breaks"), ([1, 0], "breaks")]:
            self.assert_held((["a", ""], [(0, 0), (0, 1), (1, 0), (1, 1)], starts, []), A, expected)
        # What is never come to from a start does not count.
        self.assert_held((["a", ""], [(0, 0), (1, 0), (1, 1)], [0], []), ("always", A), "holds")
        self.assert_held((["a", ""], [(0, 0), (1, 1)], [1], []), ("always", A), "breaks")

    def test_a_walk_that_ends_does_not_count(self):
        self.assert_held((["a", "b", ""], [(0, 0), (0, 1), (1, 2)], [0], []), ("always", A), "holds")
        self.assert_held((["a", "b", ""], [(0, 0), (0, 1), (1, 2), (2, 2)], [0], []), ("always", A), "breaks")

    def test_small_sentences(self):
        machines = [SWITCH, (["a", "b", ""], [(0, 1), (1, 2), (2, 0), (1, 1)], [0, 2], [[0], [3, 2]]),
                    (["ab", "a"], [(0, 1), (1, 0), (1, 1)], [1], [])]
        for sentence in all_sentences(3, [YES, NO, A]) + [("until", A, B), ("frees", A, B), ("until", B, A), ("or", A, B)]:
            for machine in machines:
                self.assert_held(machine, sentence)

    def test_drawn_machines_and_sentences(self):
        source = random.Random(250)
        found = {"holds": 0, "breaks": 0}
        for sentence in drawn_sentences(251, 700, range(2, 20)):
            if len(book_for(sentence).waits) <= 5:
                machine = drawn_machine(source, 5, ["", "a", "b", "ab", "c", "bc", "dz"])
                found[self.assert_held(machine, sentence)] += 1
                found[self.assert_held(machine, ("not", sentence))] += 1
        self.assertGreater(min(found.values()), 100)

    def test_where_a_walk_is_found_on_which_it_is_false_it_breaks(self):
        source = random.Random(252)
        breaking = 0
        for sentence in drawn_sentences(253, 60, range(2, 12), "ab"):
            if len(book_for(sentence).waits) > 5:
                continue
            machine = drawn_machine(source, 3, ["", "a", "b"], 2)
            for stem_length, ring_length in itertools.product(range(2), range(1, 4)):
                for states in itertools.product(range(len(machine[0])), repeat=stem_length + ring_length):
                    stem, ring = list(states[:stem_length]), list(states[stem_length:])
                    if walks(machine, stem, ring):
                        run = ([machine[0][state] for state in stem], [machine[0][state] for state in ring])
                        truth = truths(sentence, run)[0]
                        self.assertEqual(held(machine, ("not", sentence) if truth else sentence)[0], "breaks")
                        breaking += 1
        self.assertGreater(breaking, 200)

    def test_the_machine_of_a_run_holds_just_what_is_true_on_it(self):
        source = random.Random(254)
        runs = [drawn_run(source, ["", "a", "b", "ab", "cd", "z"], 4, 4) for _ in range(300)]
        found = {True: 0, False: 0}
        for sentence, run in zip(drawn_sentences(255, 300, range(1, 20)), runs):
            if len(book_for(sentence).waits) <= 5:
                truth = truths(sentence, run)[0]
                found[truth] += 1
                self.assert_held(machine_of(run), sentence, "holds" if truth else "breaks")
                self.assert_held(machine_of(run), ("not", sentence), "breaks" if truth else "holds")
        self.assertGreater(min(found.values()), 20)
        for run in small_runs(["", "a"], 1, 2):
            for sentence in all_sentences(2, [YES, A]):
                self.assert_held(machine_of(run), sentence, "holds" if truths(sentence, run)[0] else "breaks")

    def test_more_than_three_lamps(self):
        lamps = [("lamp", letter) for letter in "abcdefghijkl"]
        sentence = lamps[0]
        for lamp in lamps[1:]:
            sentence = ("and", sentence, lamp)
        self.assert_held((["abcdefghijkl"], [(0, 0)], [0], []), sentence, "holds")
        self.assert_held((["abcdefghijk"], [(0, 0)], [0], []), sentence, "breaks")

    def test_the_greatest(self):
        source = random.Random(256)
        every = [(begin, end) for begin in range(8) for end in range(8)]
        found = set()
        for sentence in [("and", layers("again", 2, A), ("next", B)), layers("next", 5, A),
                         ("or", layers("settles", 2, A), ("always", B)),
                         ("then", ("and", ("again", A), ("again", B)), ("always", ("then", A, ("atlast", B)))),
                         ("or", ("settles", B), ("and", ("again", A), ("or", B, ("next", ("not", B)))))]:
            self.assertEqual(len(book_for(sentence).waits), 5)
            for _ in range(12):
                machine = ([source.choice(["", "a", "b", "ab"]) for _ in range(8)], source.sample(every, 24),
                           source.sample(range(8), 8), [source.sample(range(24), 12) for _ in range(3)])
                found.add(self.assert_held(machine, sentence))
                found.add(self.assert_held(machine, ("not", sentence)))
            around = [(state, (state + 1) % 8) for state in range(8)] + [(state, state) for state in range(8)]
            ring = (["a"] * 7 + ["b"], around + [(state, (state + 3) % 8) for state in range(8)], [0], [[7], [8], [19]])
            found.add(self.assert_held(ring, sentence))
        self.assertEqual(found, {"holds", "breaks"})

    def test_told_is_the_askers_own(self):
        for sentence in [A, ("again", A), ("settles", A), ("atlast", A)]:
            self.assert_own(held, (["a", ""], [(0, 1), (1, 0), (0, 0)], [0], [[0]]), sentence)
            self.assert_own(held, (["a", ""], [(0, 1), (1, 0), (0, 0)], [0], []), sentence)
            self.assert_lists_apart(held(SWITCH, sentence))


class ShutsOutTest(HeldCase):
    # One ring that lacks hope 0 (again A's), and one hop that lies under it.
    MACHINE = (["", "a", "b"], [(0, 0), (0, 1), (1, 1), (1, 2), (2, 1)], [0, 1], [[3, 4]])

    def tampered(self, machine, sentence, paper):
        """Papers with one thing other in one of their rows."""
        marks = len(machine[3]) + len(book_for(sentence).hopes)
        for place, (state, claims, rank, lack) in enumerate(paper):
            yield paper[:place] + paper[place + 1:]
            yield paper[:place] + [paper[place]] + paper[place:]
            yield paper + [(state, claims, rank + 1, lack)]
            for other in [(state, claims, rank + 1, lack), (state, claims, rank - 1, lack), (state, claims, -1, lack),
                          (state, claims, 0, lack), (state, claims, -GREAT, lack), (state, claims, GREAT, lack),
                          ((state + 1) % len(machine[0]), claims, rank, lack)]:
                yield paper[:place] + [other] + paper[place + 1:]
            for claim in range(len(claims)):
                other = claims[:claim] + (not claims[claim],) + claims[claim + 1:]
                yield paper[:place] + [(state, other, rank, lack)] + paper[place + 1:]
            for other in [None, marks, marks + 1, -1, -GREAT, GREAT] + list(range(marks)):
                yield paper[:place] + [(state, claims, rank, other)] + paper[place + 1:]

    def test_papers_with_one_thing_other(self):
        source = random.Random(260)
        found = {True: 0, False: 0}
        cases = [(self.MACHINE, ("again", ("or", A, B))), (SWITCH, ("or", ("again", A), ("settles", ("not", A))))]
        for sentence in drawn_sentences(261, 220, range(2, 12), "ab"):
            if len(book_for(sentence).waits) <= 3:
                cases.append((drawn_machine(source, 3, ["", "a", "b"], 2), sentence))
        for machine, sentence in cases:
            told = held(machine, sentence)
            if told[0] == "holds" and len(told[1]) < 14:
                for rows in self.tampered(machine, sentence, told[1]):
                    truth = is_its_paper(machine, sentence, rows)
                    found[truth] += 1
                    self.assert_told(truth, shuts_out, machine, sentence, rows)
        self.assertGreater(min(found.values()), 400)

    def test_a_row_left_out_told_twice_or_with_another_lack(self):
        machine = (["a", ""], [(0, 1), (1, 0)], [0], [])
        paper = held(machine, ("again", A))[1]
        self.assert_told(True, shuts_out, machine, ("again", A), paper)
        for place in range(len(paper)):
            self.assert_told(False, shuts_out, machine, ("again", A), paper[:place] + paper[place + 1:])
            self.assert_told(False, shuts_out, machine, ("again", A), paper + [paper[place]])
            state, claims, rank, lack = paper[place]
            for other in [2, 3, GREAT, -1]:
                rows = paper[:place] + [(state, claims, rank, other)] + paper[place + 1:]
                self.assert_told(False, shuts_out, machine, ("again", A), rows)
        ringing = [place for place, row in enumerate(paper) if row[3] is not None]
        self.assertTrue(ringing)
        for place in ringing:
            state, claims, rank, lack = paper[place]
            for row in [(state, claims, rank, None), (state, claims, rank, 1 - lack), (state, claims, rank + 1, lack),
                        (state, claims, rank - 1, lack)]:
                self.assert_told(False, shuts_out, machine, ("again", A), paper[:place] + [row] + paper[place + 1:])

    def test_ranks_of_sixty_figures(self):
        machine = (["a", ""], [(0, 1), (1, 0)], [0], [])
        paper = held(machine, ("again", A))[1]
        greater = [(state, claims, GREAT - 10 + rank, lack) for state, claims, rank, lack in paper]
        self.assertTrue(all(row[2] <= GREAT for row in greater))
        self.assert_told(True, shuts_out, machine, ("again", A), greater)
        below = [(state, claims, rank - GREAT, lack) for state, claims, rank, lack in paper]
        self.assert_told(False, shuts_out, machine, ("again", A), below)

    def test_no_rows(self):
        self.assert_told(True, shuts_out, SWITCH, YES, [])
        self.assert_told(True, shuts_out, SWITCH, A, [])
        self.assert_told(True, shuts_out, (["a"], [(0, 0)], [], []), NO, [])
        self.assert_told(False, shuts_out, SWITCH, NO, [])
        self.assert_told(False, shuts_out, SWITCH, ("again", A), [])

    def test_rows_that_are_not_needed(self):
        self.assert_told(True, shuts_out, (["a", ""], [(0, 0)], [0], []), A, [(1, (), 5, None)])
        self.assert_told(False, shuts_out, (["a", ""], [(0, 0)], [0], []), A, [(1, (), -5, None)])
        self.assert_told(False, shuts_out, (["a", ""], [(0, 0)], [0], []), A, [(1, (), 5, 0)])
        self.assert_told(False, shuts_out, (["a", ""], [(0, 0)], [0], []), A, [(0, (), 5, None)])
        self.assert_told(False, shuts_out, (["a", ""], [(1, 0)], [0], []), A, [(1, (), 5, None)])

    def test_no_paper_of_what_breaks(self):
        source = random.Random(262)
        for sentence in [("again", A), ("settles", A), ("always", A), ("next", A)]:
            book = book_for(sentence)
            pairs = list(itertools.product(range(2), book.claims))
            for _ in range(60):
                rows = [(state, claims, source.randrange(3), source.choice([None] + list(range(len(book.hopes)))))
                        for state, claims in source.sample(pairs, source.randint(0, len(pairs)))]
                self.assertFalse(is_its_paper(SWITCH, sentence, rows))
                self.assert_told(False, shuts_out, SWITCH, sentence, rows)


class RefusalsTest(HeldCase):
    def assert_refused(self, error, machine, sentence):
        with self.assertRaises(error):
            self.ask(held, machine, sentence)
        with self.assertRaises(error):
            self.ask(shuts_out, machine, sentence, [])

    def test_what_is_no_machine(self):
        for thing in NO_MACHINES:
            with self.subTest(repr(thing)[:60]):
                self.assert_refused(NoMachine, thing, A)

    def test_what_is_no_sentence(self):
        for thing in NO_SENTENCES:
            with self.subTest(repr(thing)[:60]):
                self.assert_refused(NoSentence, SWITCH, thing)

    def test_the_order_of_refusals(self):
        much = layers("next", 6, A)
        self.assert_refused(NoMachine, (["a"], [], [1], []), much)
        self.assert_refused(NoMachine, None, None)
        self.assert_refused(NoMachine, A, SWITCH)
        self.assert_refused(NoSentence, SWITCH, layers("next", 24, A))
        self.assert_refused(TooMuch, SWITCH, much)

    def test_five_waits_and_six(self):
        machine = (["abc"], [(0, 0)], [0], [])
        for five, six in [
            (layers("next", 5, A), layers("next", 6, A)), (("and", layers("again", 2, A), ("next", B)), layers("again", 3, A)),
            (("and", layers("next", 5, A), layers("next", 5, A)), ("and", layers("next", 5, A), ("next", B))),
            (("and", layers("again", 2, A), ("next", layers("again", 2, A))),
             ("and", layers("again", 2, A), ("and", ("next", B), ("next", C)))),
        ]:
            self.assertEqual((len(book_for(five).waits), len(book_for(six).waits)), (5, 6))
            self.assert_held(machine, five, "holds")
            self.assert_refused(TooMuch, machine, six)


if __name__ == "__main__":
    unittest.main()
