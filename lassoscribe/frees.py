"""Frees: which claims some run bears out, and sentences that are possible, the same, or within another."""

from lassoscribe.books import hopes
from lassoscribe.rings import paper_from
from lassoscribe.rings import ring_from
from lassoscribe.rings import shut
from lassoscribe.runs import ahead
from lassoscribe.steps import MOST_WAITS
from lassoscribe.steps import bounded_book
from lassoscribe.steps import claims_for
from lassoscribe.steps import steps_of


# The nodes are the numbers of all claims, the ways are the steps in their order.
def net_of_steps(rows, steps):
    ways = [(begin, end, taken) for begin, moment, end, taken, view in steps]
    return (len(claims_for(rows)), ways, len(hopes(rows)))


# The run along the steps of a fair ring from the claims of a number that has one.
def run_from(net, steps, number):
    found = ring_from(net, number)
    return ([steps[way][1] for way in found[0]], [steps[way][1] for way in found[1]])


def claims_told(rows):
    steps = steps_of(rows)
    net = net_of_steps(rows, steps)
    told = []
    for number, row in enumerate(shut(net)):
        if row is None:
            told.append(("run", run_from(net, steps, number)))
        else:
            told.append(("shut", row[0], row[1]))
    return told


# A run that begins with one of the first steps, told by the one word, or by the other word a paper
# that shuts out all of them.
def run_or_paper(rows, steps, firsts, word, other_word):
    net = net_of_steps(rows, steps)
    closed = shut(net)
    for begin, moment, end, taken, view in firsts:
        if closed[end] is None:
            return (word, ahead([moment], run_from(net, steps, end)))
    every = claims_for(rows)
    ends = [end for begin, moment, end, taken, view in firsts]
    return (other_word, [(every[node], rank, lack) for node, rank, lack in paper_from(net, ends)])


def possible(sentence):
    book = bounded_book([sentence], MOST_WAITS)
    spot = book[1][0]
    steps = steps_of(book[0])
    firsts = [step for step in steps if step[4][spot]]
    return run_or_paper(book[0], steps, firsts, "run", "none")


def same(one, other):
    book = bounded_book([one, other], MOST_WAITS)
    spots = book[1]
    steps = steps_of(book[0])
    firsts = [step for step in steps if step[4][spots[0]] != step[4][spots[1]]]
    return run_or_paper(book[0], steps, firsts, "parted", "same")


def within(one, other):
    book = bounded_book([one, other], MOST_WAITS)
    spots = book[1]
    steps = steps_of(book[0])
    firsts = [step for step in steps if step[4][spots[0]] and not step[4][spots[1]]]
    return run_or_paper(book[0], steps, firsts, "parted", "within")
