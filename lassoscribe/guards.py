"""Guards: sentences that a watch denies in time on each run on which they are false."""

from lassoscribe.books import hopes
from lassoscribe.books import lamps_in
from lassoscribe.frees import claims_told
from lassoscribe.moments import all_moments
from lassoscribe.rings import paper_from
from lassoscribe.rings import ring_from
from lassoscribe.rings import shut
from lassoscribe.steps import bounded_book
from lassoscribe.steps import claims_for
from lassoscribe.steps import steps_at
from lassoscribe.watchers import watcher_of_book

MOST_WAITS_OF_GUARDS = 4


# Of each of all claims, whether some run bears them out.
def are_free(rows):
    return [told[0] == "run" for told in claims_told(rows)]


# Couples of steps by one moment, the second of which leads to claims that some run bears out.
def couples_of(rows):
    free = are_free(rows)
    couples = []
    for moment in all_moments(lamps_in(rows)):
        steps = steps_at(rows, moment)
        seconds = [step for step in steps if free[step[2]]]
        for first in steps:
            couples.extend([(first, second) for second in seconds])
    return couples


# The pair of the claims of two numbers is the node one * many + other.
def net_of_couples(rows, couples):
    many = len(claims_for(rows))
    ways = []
    for first, second in couples:
        ways.append((first[0] * many + second[0], first[2] * many + second[2], first[3]))
    return (many * many, ways, len(hopes(rows)))


def loose_from(rows, net, couples, beginning):
    every = claims_for(rows)
    found = ring_from(net, beginning[0][2] * len(every) + beginning[1][2])
    stem = [beginning] + [couples[way] for way in found[0]]
    ring = [couples[way] for way in found[1]]
    run = ([first[1] for first, second in stem], [first[1] for first, second in ring])
    return ("loose", run, [every[second[2]] for first, second in stem + ring])


def guard(sentence):
    book = bounded_book([sentence], MOST_WAITS_OF_GUARDS)
    rows = book[0]
    spot = book[1][0]
    every = claims_for(rows)
    many = len(every)
    couples = couples_of(rows)
    net = net_of_couples(rows, couples)
    closed = shut(net)
    starts = []
    for first, second in couples:
        if second[4][spot] and not first[4][spot]:
            start = first[2] * many + second[2]
            if closed[start] is None:
                return loose_from(rows, net, couples, (first, second))
            starts.append(start)
    paper = paper_from(net, starts)
    return ("guard", [(every[node // many], every[node % many], rank, lack) for node, rank, lack in paper])


def closing(sentence):
    book = bounded_book([sentence], MOST_WAITS_OF_GUARDS)
    free = are_free(book[0])
    whole = watcher_of_book(book[0], book[1][0])
    kept = [(begin, moment, end, ()) for begin, moment, end, taken in whole[2] if free[end - 1]]
    return (whole[0], whole[1], kept, 0)
