"""The desk: sentences, runs, machines and watches kept by names, and rows that ask of them."""

from lassoscribe.errors import NoName
from lassoscribe.errors import NoRow
from lassoscribe.frees import possible
from lassoscribe.frees import same
from lassoscribe.frees import within
from lassoscribe.guards import guard
from lassoscribe.held import held
from lassoscribe.readings import true_on
from lassoscribe.texts import read_machine
from lassoscribe.texts import read_moment
from lassoscribe.texts import read_run
from lassoscribe.texts import read_sentence
from lassoscribe.texts import show_machine
from lassoscribe.texts import show_moments
from lassoscribe.texts import show_run
from lassoscribe.texts import show_sentence
from lassoscribe.texts import show_walk
from lassoscribe.watch import Watch

MOST_LETTERS = 8

# What stands behind the first word of a row: a new name, a text, a moment, the name of whatever thing
# (of one that has a text, where it is shown), or the name of a thing of a sort.
FORMS = {
    "sentence": ("new", "text"), "run": ("new", "text"), "machine": ("new", "text"),
    "drop": ("thing",), "show": ("shown",),
    "true": ("sentence", "run"), "held": ("machine", "sentence"),
    "possible": ("sentence",), "same": ("sentence", "sentence"), "within": ("sentence", "sentence"),
    "guard": ("sentence",),
    "watch": ("new", "sentence"), "see": ("watch", "moment"), "goings": ("watch",), "seen": ("watch",),
}


def words_of(row):
    if not isinstance(row, str):
        raise NoRow("this is no text")
    words = row.split(" ")
    if words[0] not in FORMS:
        raise NoRow("no row begins so")
    form = FORMS[words[0]]
    if form[-1] == "text":
        # A text may have blanks of its own.
        words = row.split(" ", 2)
    if len(words) != 1 + len(form):
        raise NoRow("this row has too few or too many words")
    return words


def is_name(word):
    return 0 < len(word) <= MOST_LETTERS and all(["a" <= sign <= "z" for sign in word])


def is_of_sort(kept_sort, sort):
    if sort == "thing":
        return True
    if sort == "shown":
        return kept_sort != "watch"
    return kept_sort == sort


def read_thing(sort, text):
    if sort == "sentence":
        return read_sentence(text)
    if sort == "run":
        return read_run(text)
    return read_machine(text)


def show_thing(sort, thing):
    if sort == "sentence":
        return show_sentence(thing)
    if sort == "run":
        return show_run(thing)
    return show_machine(thing)


def show_held(told):
    if told[0] == "holds":
        return "holds"
    return "breaks " + show_walk(told[1], told[2])


def show_with_run(told):
    if told[0] in ("run", "parted", "loose"):
        return told[0] + " " + show_run(told[1])
    return told[0]


def show_going(going):
    if going is None:
        return "none"
    return show_run(going)


def told_of_sentences(word, things):
    if word == "possible":
        return possible(things[0])
    if word == "same":
        return same(things[0], things[1])
    if word == "within":
        return within(things[0], things[1])
    return guard(things[0])


def told_of_things(word, things):
    if word == "true":
        return "yes" if true_on(things[0], things[1]) else "no"
    if word == "held":
        return show_held(held(things[0], things[1]))
    if word == "see":
        return things[0].see(read_moment(things[1]))
    if word == "goings":
        return "; ".join([show_going(going) for going in things[0].goings()])
    if word == "seen":
        return show_moments(things[0].seen())
    return show_with_run(told_of_sentences(word, things))


class Desk:
    def __init__(self):
        # By each name, a tuple of the thing's sort and the thing.
        self.kept = {}

    # What a word behind the first one stands for: the thing kept by a name, else the word itself.
    def meant(self, sort, word):
        if sort == "text" or sort == "moment":
            return word
        if not is_name(word):
            raise NoName("this is no name")
        if sort == "new":
            return word
        if word not in self.kept or not is_of_sort(self.kept[word][0], sort):
            raise NoName("nothing of this sort stands by this name")
        return self.kept[word][1]

    def say(self, row):
        words = words_of(row)
        word = words[0]
        things = [self.meant(sort, other) for sort, other in zip(FORMS[word], words[1:])]
        if word in ("sentence", "run", "machine"):
            self.kept[words[1]] = (word, read_thing(word, things[1]))
            return "ok"
        if word == "drop":
            self.kept.pop(words[1])
            return "ok"
        if word == "show":
            return show_thing(self.kept[words[1]][0], things[0])
        if word == "watch":
            self.kept[words[1]] = (word, Watch(things[1]))
            return self.kept[words[1]][1].says()
        return told_of_things(word, things)
