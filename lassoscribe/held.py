"""Held: whether a sentence is true on the runs of all walks of a machine."""

from lassoscribe.books import hopes
from lassoscribe.errors import NoMachine
from lassoscribe.machines import is_machine
from lassoscribe.nets import is_paper
from lassoscribe.rings import fair_ring
from lassoscribe.rings import paper_from
from lassoscribe.steps import MOST_WAITS
from lassoscribe.steps import book_told
from lassoscribe.steps import claims_for
from lassoscribe.steps import refuse_more_waits
from lassoscribe.steps import steps_at


def book_for(machine, sentence):
    if not is_machine(machine):
        raise NoMachine("this is no machine")
    book = book_told([sentence])
    refuse_more_waits(book[0], MOST_WAITS)
    return book


# The pair of a state and the claims of a number is the node state * many + number.
def net_of_pairs(machine, rows):
    marks = machine[3]
    many = len(claims_for(rows))
    steps = [steps_at(rows, moment) for moment in machine[0]]
    ways = []
    for number, way in enumerate(machine[1]):
        marked = tuple([mark for mark, some in enumerate(marks) if number in some])
        for begin, moment, end, taken, view in steps[way[1]]:
            eased_too = tuple([len(marks) + hope for hope in taken])
            ways.append((way[0] * many + begin, way[1] * many + end, marked + eased_too))
    return (len(steps) * many, ways, len(marks) + len(hopes(rows)))


def beginnings(machine, rows, spot):
    many = len(claims_for(rows))
    found = []
    for state in machine[2]:
        for begin, moment, end, taken, view in steps_at(rows, machine[0][state]):
            if not view[spot]:
                found.append(state * many + end)
    return found


def states_left(net, numbers, many):
    return [net[1][number][0] // many for number in numbers]


def held(machine, sentence):
    book = book_for(machine, sentence)
    rows = book[0]
    every = claims_for(rows)
    many = len(every)
    net = net_of_pairs(machine, rows)
    starts = beginnings(machine, rows, book[1][0])
    fair = fair_ring(net, starts)
    if fair is not None:
        return ("breaks", states_left(net, fair[0], many), states_left(net, fair[1], many))
    paper = paper_from(net, starts)
    return ("holds", [(node // many, every[node % many], rank, lack) for node, rank, lack in paper])


def shuts_out(machine, sentence, rows):
    book = book_for(machine, sentence)
    every = claims_for(book[0])
    net = net_of_pairs(machine, book[0])
    paper = [None for node in range(net[0])]
    for state, claims, rank, lack in rows:
        node = state * len(every) + every.index(claims)
        if paper[node] is not None:
            return False
        paper[node] = (rank, lack)
    return is_paper(net, beginnings(machine, book[0], book[1][0]), paper)
