"""Watchers: states and rows that go along a run, and the watcher that a sentence makes."""

from lassoscribe.books import hopes
from lassoscribe.books import lamps_in
from lassoscribe.moments import cut
from lassoscribe.rings import paper_from
from lassoscribe.rings import ring_from
from lassoscribe.runs import fold
from lassoscribe.runs import sign
from lassoscribe.steps import MOST_WAITS
from lassoscribe.steps import bounded_book
from lassoscribe.steps import claims_for
from lassoscribe.steps import steps_of


# State 0 has no claims behind it, so the states of claims are numbered from 1 on.
def watcher_of_book(rows, spot):
    told = []
    for begin, moment, end, taken, view in steps_of(rows):
        if view[spot]:
            told.append((0, moment, end + 1, taken))
        told.append((begin + 1, moment, end + 1, taken))
    return (lamps_in(rows), 1 + len(claims_for(rows)), told, len(hopes(rows)))


def watcher(sentence):
    book = bounded_book([sentence], MOST_WAITS)
    return watcher_of_book(book[0], book[1][0])


# The net of pairs of place and state, and of each of its ways the number of the row that is gone.
def net_along(watcher, run):
    count = watcher[1]
    places = len(run[0]) + len(run[1])
    ways = []
    gone = []
    for place in range(places):
        moment = cut(sign(run, place), watcher[0])
        following = fold(run, place + 1)
        for number, row in enumerate(watcher[2]):
            if row[1] == moment:
                ways.append((place * count + row[0], following * count + row[2], row[3]))
                gone.append(number)
    return ((places * count, ways, watcher[3]), gone)


def takes(watcher, run):
    along = net_along(watcher, run)
    net = along[0]
    gone = along[1]
    found = ring_from(net, 0)
    if found is not None:
        return ("taken", [gone[way] for way in found[0]], [gone[way] for way in found[1]])
    count = watcher[1]
    return ("left", [(node // count, node % count, rank, lack) for node, rank, lack in paper_from(net, [0])])
