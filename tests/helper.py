"""What the tests share: things of every kind, small runs, and what point 2 asks of each function."""

import copy
import itertools
import random
import unittest

from lassoscribe.books import book_of
from lassoscribe.plains import plain

ALL_LETTERS = "abcdefghijklmnopqrstuvwxyz"


def nested(depth):
    thing = []
    for level in range(depth):
        thing = [thing] if level % 2 else (thing,)
    return thing


# One or more of each kind that point 2 lists, but texts; none of them is a moment or a run.
OTHER_KINDS = [
    None, True, False, 0, 1, -1, 97, 10 ** 60 - 1,
    [], ["a"], ["a", "b"], [""], [[], ["a"]], ["a"] * 7000,
    (), ("a",), ("a", "b"), ("",), ((), ("a",)), (None, None), ("a",) * 7000,
    {}, {"a": "b"}, {0: [], 1: ["a"]}, {"stem": [], "ring": ["a"]},
    nested(99),
]


def show(run, many):
    """The first moments of a run, laid out plainly: the oracle for all that speaks of places."""
    stem, ring = run
    return (stem + ring * (many // len(ring) + 1))[:many]


def lists_of(moments, shortest, longest):
    return [list(some) for size in range(shortest, longest + 1)
            for some in itertools.product(moments, repeat=size)]


def small_runs(moments, longest_stem, longest_ring):
    return [(list(stem), list(ring)) for stem in lists_of(moments, 0, longest_stem)
            for ring in lists_of(moments, 1, longest_ring)]


# How many sentences stand behind each of the fourteen words (a lamp has its letter there).
WORDS = {"yes": 0, "no": 0, "lamp": 0, "not": 1, "next": 1, "atlast": 1, "always": 1, "again": 1, "settles": 1,
         "and": 2, "or": 2, "then": 2, "until": 2, "frees": 2}
PLAIN_WORDS = ["yes", "lamp", "not", "and", "next", "until"]
YES, NO = ("yes",), ("no",)
A, B, C = ("lamp", "a"), ("lamp", "b"), ("lamp", "c")


NO_SENTENCES = OTHER_KINDS + [
    "", "yes", "always a", ("yes", YES), ("maybe",), ("lamp", "A"), ("lamp", "ab"), ("lamp", 0), ("not",), ["yes"],
    ("not", A, B), ("and", A), ("until", A, B, C), ("not", ["lamp", "a"]), {"yes": YES}, (["yes"],), ("not", nested(98)),
]


def parts(sentence):
    """A sentence and all that stand in it, each as often as it stands there."""
    inner = [] if sentence[0] == "lamp" else sentence[1:]
    return [sentence] + [part for one in inner for part in parts(one)]


def deep(sentence):
    """How deep it is nested: one tuple alone is one deep."""
    inner = [] if sentence[0] == "lamp" else sentence[1:]
    return 1 + max([deep(part) for part in inner], default=0)


def layers(word, many, inner):
    for _ in range(many):
        inner = (word, inner)
    return inner


def all_sentences(most_words, leaves, known=tuple(WORDS)):
    """All sentences of the known words with these leaves, of at most so many words."""
    by_size = {1: list(leaves)}
    for size in range(2, most_words + 1):
        by_size[size] = [(word, inner) for word in known if WORDS[word] == 1 for inner in by_size[size - 1]]
        by_size[size] += [(word, left, right) for word in known if WORDS[word] == 2 for cut in range(1, size - 1)
                          for left in by_size[cut] for right in by_size[size - 1 - cut]]
    return [sentence for size in by_size for sentence in by_size[size]]


def drawn_sentence(source, size, letters="abc", known=tuple(WORDS)):
    """A sentence of just so many words, drawn from a source of chance that begins alike each time."""
    fits = [word for word in known if (size == 1) == (WORDS[word] == 0) and WORDS[word] < size]
    word = source.choice(fits)
    if word == "lamp":
        return (word, source.choice(letters))
    if WORDS[word] < 2:
        return (word,) + tuple(drawn_sentence(source, size - 1, letters, known) for _ in range(WORDS[word]))
    left = source.randint(1, size - 2)
    return (word, drawn_sentence(source, left, letters, known),
            drawn_sentence(source, size - 1 - left, letters, known))


def drawn_sentences(seed, many, sizes, letters="abc", known=tuple(WORDS)):
    source = random.Random(seed)
    return [drawn_sentence(source, source.choice(sizes), letters, known) for _ in range(many)]


def drawn_run(source, moments, longest_stem, longest_ring):
    return ([source.choice(moments) for _ in range(source.randint(0, longest_stem))],
            [source.choice(moments) for _ in range(source.randint(1, longest_ring))])


def truths(sentence, run):
    """What a sentence says at each place of stem and ring, looked for step by step as point 9 tells it.
    From a place on, as many places as stem and ring have are all that differ."""
    stem, ring = run
    count = len(stem) + len(ring)
    around = list(range(count)) + [len(stem) + step % len(ring) for step in range(2 * count)]
    word = sentence[0]
    inner = [truths(part, run) for part in sentence[1:]] if word != "lamp" else []

    def first(place):
        return inner[0][around[place]]

    def second(place):
        return inner[1][around[place]]

    def says(place):
        onward = range(place, place + count)
        if word == "yes":
            return True
        if word == "no":
            return False
        if word == "lamp":
            return sentence[1] in (stem + ring)[place]
        if word == "not":
            return not first(place)
        if word == "and":
            return first(place) and second(place)
        if word == "or":
            return first(place) or second(place)
        if word == "then":
            return not first(place) or second(place)
        if word == "next":
            return first(place + 1)
        if word == "atlast":
            return any(first(later) for later in onward)
        if word == "always":
            return all(first(later) for later in onward)
        if word == "again":
            return any(inner[0][len(stem):])
        if word == "settles":
            return all(inner[0][len(stem):])
        if word == "until":
            return any(second(later) and all(first(step) for step in range(place, later)) for later in onward)
        if word == "frees":
            lets = [later for later in onward if first(later)]
            upto = range(place, lets[0] + 1) if lets else onward
            return all(second(step) for step in upto)
        raise AssertionError("no such word: " + repr(word))

    return [says(place) for place in range(count)]


def sentence_of_row(rows, number):
    row = rows[number]
    if row[0] == "lamp":
        return row
    return (row[0],) + tuple(sentence_of_row(rows, inner) for inner in row[1:])


def looked(rows, moment, claims):
    """The view as point 13 tells it, each truth asked for by itself."""
    waiting = [number for number, row in enumerate(rows) if row[0] == "until" or ("next", number) in rows]
    claimed = dict(zip(waiting, claims, strict=True))
    known = {}

    def truth(number):
        if number not in known:
            word, inner = rows[number][0], rows[number][1:]
            known[number] = {
                "yes": lambda: True,
                "lamp": lambda: inner[0] in list(moment),
                "not": lambda: truth(inner[0]) is False,
                "and": lambda: (truth(inner[0]), truth(inner[1])) == (True, True),
                "next": lambda: claimed[inner[0]],
                "until": lambda: truth(inner[1]) or (truth(inner[0]), claimed[number]) == (True, True),
            }[word]()
        return known[number]

    return tuple(truth(number) for number in range(len(rows)))


class Book:
    """A book with its looks and steps, worked out by the tests themselves as points 12 to 14, 23 and 27 tell them."""

    def __init__(self, rows, spots=()):
        self.rows, self.spots = rows, list(spots)
        self.waits = [number for number, row in enumerate(rows) if row[0] == "until" or ("next", number) in rows]
        self.hopes = [number for number, row in enumerate(rows) if row[0] == "until"]
        # Of many waits, claims would be very many, and nothing is asked of them.
        self.claims = list(itertools.product([False, True], repeat=len(self.waits))) if len(self.waits) < 9 else None
        self.lamps = "".join(sorted({row[1] for row in rows if row[0] == "lamp"}))
        self.moments = sorted("".join(some) for size in range(len(self.lamps) + 1)
                              for some in itertools.combinations(self.lamps, size))
        self.known = {}

    def look(self, moment, claims):
        """The view, its claims, and the hopes eased in it."""
        moment = "".join(lamp for lamp in moment if lamp in self.lamps)
        if (moment, claims) not in self.known:
            view = looked(self.rows, moment, claims)
            eased = tuple(place for place, hope in enumerate(self.hopes)
                          if view[hope] is False or view[self.rows[hope][2]] is True)
            self.known[moment, claims] = (view, tuple(view[number] for number in self.waits), eased)
        return self.known[moment, claims]

    def says(self, moment, claims, which=0):
        return self.look(moment, claims)[0][self.spots[which]]

    def steps(self):
        """All steps (from, to, taken) between claims, by each of all moments."""
        return [(self.look(moment, claims)[1], claims, self.look(moment, claims)[2])
                for moment in self.moments for claims in self.claims]


def book_for(*sentences):
    return Book(*book_of([plain(sentence) for sentence in sentences]))


def says_along(watch, signs):
    """What a watch says ahead of the first sign and behind each one."""
    return [watch.says()] + [watch.see(sign) for sign in signs]


def is_paper_over(kept, starts, ways, marks):
    """Whether the tuples (rank, lack) kept by nodes of whatever kind are a paper, as point 19 tells it."""
    if any(start not in kept for start in starts):
        return False
    for rank, lack in kept.values():
        if rank < 0 or not (lack is None or 0 <= lack < marks):
            return False
    for begin, end, taken in ways:
        if begin in kept:
            if end not in kept or kept[end][0] > kept[begin][0]:
                return False
            if kept[end][0] == kept[begin][0]:
                lack = kept[begin][1]
                if kept[end][1] != lack or lack is None or lack in taken:
                    return False
    return True


def drawn_book(source, many, letters="abc", most_words=200):
    """So many rows that no laid sentences need to have brought: in any order that has the parts ahead."""
    rows, sizes, depths = [], [], []
    while len(rows) < many:
        word = source.choice(["yes", "lamp", "not", "and", "and", "next", "until", "until"])
        if word == "lamp":
            row, inner = (word, source.choice(letters)), []
        elif WORDS[word] > 0 and not rows:
            continue
        else:
            inner = [source.randrange(len(rows)) for _ in range(WORDS[word])]
            row = (word,) + tuple(inner)
        size = 1 + sum(sizes[number] for number in inner)
        depth = 1 + max([depths[number] for number in inner], default=0)
        if row not in rows and size <= most_words and depth <= 100:
            rows.append(row)
            sizes.append(size)
            depths.append(depth)
    return rows


def walks_fairly(net, node, stem, ring):
    """Whether point 18 tells these ways as a fair ring from the node, gone step by step."""
    count, ways, marks = net
    numbers = stem + ring
    if not ring or any(number not in range(len(ways)) for number in numbers):
        return False
    ended = [node] + [ways[number][1] for number in numbers]
    begun = [ways[number][0] for number in numbers]
    if begun != ended[:-1] or ended[-1] != begun[len(stem)]:
        return False
    return {mark for number in ring for mark in ways[number][2]} == set(range(marks))


def is_kept_paper(net, starts, rows):
    """Whether these are a paper for the starts of a net."""
    count, ways, marks = net
    kept = {node: row for node, row in enumerate(rows) if row is not None}
    return len(rows) == count and is_paper_over(kept, starts, ways, marks)


def nodes_with_fair_ring(net):
    """Of each node whether a fair ring goes from it, by which nodes lead to which in any many steps."""
    count, ways, marks = net
    reach = [{node} for node in range(count)]
    changed = True
    while changed:
        changed = False
        for begin, end, taken in ways:
            if not reach[end] <= reach[begin]:
                reach[begin] |= reach[end]
                changed = True

    def has_ring_through(node):
        around = [taken for begin, end, taken in ways if begin in reach[node] and node in reach[end]]
        return bool(around) and {mark for taken in around for mark in taken} == set(range(marks))

    through = [has_ring_through(node) for node in range(count)]
    return [any(through[other] for other in reach[node]) for node in range(count)]


def cut_marks(net, marks):
    """The net with the first marks alone."""
    return (net[0], [(begin, end, tuple(mark for mark in taken if mark < marks)) for begin, end, taken in net[1]], marks)


def drawn_net(source, count, many_ways, marks, often):
    """A net in which a way takes each mark that often (of a hundred)."""
    def taken():
        return tuple(mark for mark in range(marks) if source.randrange(100) < often)

    return (count, [(source.randrange(count), source.randrange(count), taken()) for _ in range(many_ways)], marks)


def walks(machine, stem, ring):
    """Whether point 24 tells these states as a walk of the machine, gone step by step."""
    lit, ways, starts, marks = machine
    states = stem + ring
    if not ring or any(state not in range(len(lit)) for state in states) or states[0] not in starts:
        return False
    following = states[1:] + [ring[0]]
    steps = [(here, there) for here, there in zip(states, following)]
    if any(step not in ways for step in steps):
        return False
    gone = {ways.index(step) for step in steps[len(stem):]}
    return all(gone & set(mark) for mark in marks)


def drawn_machine(source, most_states, moments, most_marks=3):
    count = source.randint(1, most_states)
    every = [(begin, end) for begin in range(count) for end in range(count)]
    ways = source.sample(every, source.randint(0, min(24, len(every), 3 * count)))
    marks = [source.sample(range(len(ways)), source.randint(min(1, len(ways)), len(ways)))
             for _ in range(source.randint(0, most_marks))]
    starts = source.sample(range(count), source.randint(min(1, source.randint(0, 5)), count))
    return ([source.choice(moments) for _ in range(count)], ways, starts, marks)


def lists_in(thing):
    inner = [found for part in thing for found in lists_in(part)] if isinstance(thing, (list, tuple)) else []
    return inner + ([thing] if isinstance(thing, list) else [])


def spoil(thing):
    if isinstance(thing, (list, tuple)):
        for part in thing:
            spoil(part)
    if isinstance(thing, list):
        thing.append("spoilt")
        thing[0] = "spoilt"


def shortened(text):
    return text if len(text) <= 300 else text[:140] + " .. " + text[-140:]


class Case(unittest.TestCase):
    def assert_same(self, told, expected):
        """As assertEqual, but True is not 1 here, and long lists that differ are not laid side by side,
        which takes very long for some."""
        if told != expected or repr(told) != repr(expected):
            self.fail("told: " + shortened(repr(told)) + "\nexpected: " + shortened(repr(expected)))

    def ask(self, function, *handed):
        """Asks, and sees to it that nothing handed in is changed."""
        before = repr(handed)
        told = function(*handed)
        self.assertTrue(repr(handed) == before, "what was handed in is changed")
        return told

    def assert_told(self, expected, function, *handed):
        self.assert_same(self.ask(function, *handed), expected)

    def assert_own(self, function, *handed):
        """What is told is the asker's own: spoiling it touches nothing else, now or later."""
        before = repr(handed)
        first = function(*handed)
        second = function(*handed)
        kept = copy.deepcopy(first)
        spoil(first)
        self.assertNotEqual(first, kept)
        self.assert_same(repr(handed), before)
        self.assert_same(second, kept)
        self.assert_same(function(*handed), kept)
        spoil(list(handed))
        self.assert_same(second, kept)

    def assert_parts_apart(self, run):
        """Spoiling the stem of a told run leaves its ring alone, and the other way round."""
        stem, ring = copy.deepcopy(run)
        spoil(run[0])
        self.assert_same(run[1], ring)
        spoil(run[1])
        self.assert_same(run[0][1:], (stem + ["spoilt"])[1:])

    def assert_lists_apart(self, told):
        """No list in what is told is another one there, too."""
        found = lists_in(told)
        self.assertEqual(len({id(some) for some in found}), len(found))

    def assert_plain_run(self, run, lamps, longest_stem, longest_ring):
        """A told run: of the right kinds, its moments of these lamps alone, and within these bounds."""
        self.assertTrue(type(run) is tuple and [type(part) for part in run] == [list, list], run)
        stem, ring = run
        for moment in stem + ring:
            self.assertTrue(type(moment) is str and moment == "".join(lamp for lamp in lamps if lamp in moment), run)
        self.assertLessEqual(len(stem), longest_stem)
        self.assertLessEqual(len(ring), longest_ring)
        self.assertGreater(len(ring), 0)

    def assert_rank_and_lack(self, rank, lack):
        self.assertIs(type(rank), int)
        self.assertTrue(lack is None or type(lack) is int, lack)
