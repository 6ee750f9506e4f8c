"""Texts of sentences, runs, machines and walks, and how they are read."""

from lassoscribe.errors import NoText
from lassoscribe.machines import is_machine
from lassoscribe.moments import is_moment
from lassoscribe.runs import is_run
from lassoscribe.sentences import is_lamp
from lassoscribe.sentences import is_sentence
from lassoscribe.sentences import many_parts

FIGURES = "0123456789"
MOST_FIGURES = 60


def show_sentence(sentence):
    word = sentence[0]
    if word == "lamp":
        return sentence[1]
    if len(sentence) == 1:
        return word
    if len(sentence) == 2:
        return word + " " + show_sentence(sentence[1])
    return "(" + show_sentence(sentence[1]) + " " + word + " " + show_sentence(sentence[2]) + ")"


def show_moment(moment):
    if moment == "":
        return "-"
    return moment


def show_moments(moments):
    return " ".join([show_moment(moment) for moment in moments])


def show_round(stem, ring):
    return " ".join(stem + ["/"] + ring)


def show_run(run):
    return show_round([show_moment(moment) for moment in run[0]], [show_moment(moment) for moment in run[1]])


def show_numbers(numbers):
    return [str(number) for number in numbers]


def show_walk(stem, ring):
    return show_round(show_numbers(stem), show_numbers(ring))


def show_machine(machine):
    rows = [["state", show_moment(moment)] for moment in machine[0]]
    rows.extend([["way"] + show_numbers(way) for way in machine[1]])
    rows.extend([["from", str(start)] for start in machine[2]])
    rows.extend([["mark"] + show_numbers(mark) for mark in machine[3]])
    return "; ".join([" ".join(row) for row in rows])


def refuse_other_kinds(thing):
    if not isinstance(thing, str):
        raise NoText("this is no text")


def taken_off(pile):
    if len(pile) == 0:
        raise NoText("a sentence lacks a part")
    return pile.pop()


# Words are laid from the last to the first, so what a word stands ahead of lies on the pile already.
# What is wrongly put together here is no sentence, or shows as another text.
def lay_word(pile, word):
    if word == "(":
        left = taken_off(pile)
        middle = taken_off(pile)
        right = taken_off(pile)
        taken_off(pile)
        pile.append((middle, left, right))
    elif many_parts(word) == 1:
        pile.append((word, taken_off(pile)))
    elif many_parts(word) == 0:
        pile.append((word,))
    elif is_lamp(word):
        pile.append(("lamp", word))
    else:
        pile.append(word)


def read_sentence(text):
    refuse_other_kinds(text)
    pile = []
    for word in reversed(text.replace("(", "( ").replace(")", " )").split(" ")):
        lay_word(pile, word)
    if len(pile) != 1 or not is_sentence(pile[0]) or show_sentence(pile[0]) != text:
        raise NoText("this is no sentence's text")
    return pile[0]


def read_moment(word):
    if word == "-":
        return ""
    if word == "" or not is_moment(word):
        raise NoText("this is no moment's text")
    return word


def read_run(text):
    refuse_other_kinds(text)
    words = text.split(" ")
    if words.count("/") != 1:
        raise NoText("there is one ring in a run's text")
    middle = words.index("/")
    stem = [read_moment(word) for word in words[:middle]]
    ring = [read_moment(word) for word in words[middle + 1:]]
    if not is_run((stem, ring)):
        raise NoText("this is no run's text")
    return (stem, ring)


def read_number(word):
    if word == "" or len(word) > MOST_FIGURES or not all([sign in FIGURES for sign in word]):
        raise NoText("this is no number's text")
    return int(word)


def read_numbers(words):
    return [read_number(word) for word in words]


def lay_row(machine, words):
    if words[0] == "state" and len(words) == 2:
        machine[0].append(read_moment(words[1]))
    elif words[0] == "way":
        machine[1].append(tuple(read_numbers(words[1:])))
    elif words[0] == "from" and len(words) == 2:
        machine[2].append(read_number(words[1]))
    elif words[0] == "mark":
        machine[3].append(read_numbers(words[1:]))
    else:
        raise NoText("this is no row of a machine's text")


def read_machine(text):
    refuse_other_kinds(text)
    machine = ([], [], [], [])
    for row in text.split("; "):
        lay_row(machine, row.split(" "))
    # Rows in another order, and noughts ahead of a number, show as another text.
    if not is_machine(machine) or show_machine(machine) != text:
        raise NoText("this is no machine's text")
    return machine
