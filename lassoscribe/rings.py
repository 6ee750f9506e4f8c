"""Rings: of each node of a net a fair ring from it, or a rank that shuts out all of them.

A knot is a greatest set of nodes that lead to one another, perhaps one node alone. Each ring stays
within one knot, so there is a fair one just where ways within a knot take each mark.
"""

from lassoscribe.nets import is_taken


def ends_of(net):
    ends = [[] for node in range(net[0])]
    for way in net[1]:
        ends[way[0]].append(way[1])
    return ends


def begins_of(net):
    begins = [[] for node in range(net[0])]
    for way in net[1]:
        begins[way[1]].append(way[0])
    return begins


# The nodes in the order in which a walk that goes on as deep as it can leaves them for good.
def leaving_order(leads):
    seen = [False for node in leads]
    tried = [0 for node in leads]
    order = []
    for begin in range(len(leads)):
        path = [] if seen[begin] else [begin]
        seen[begin] = True
        while len(path) > 0:
            node = path[-1]
            if tried[node] == len(leads[node]):
                order.append(path.pop())
            else:
                other = leads[node][tried[node]]
                tried[node] = tried[node] + 1
                if not seen[other]:
                    seen[other] = True
                    path.append(other)
    return order


def number_knot(knots, ends, begin, number):
    knots[begin] = number
    line = [begin]
    while len(line) > 0:
        node = line.pop()
        for other in ends[node]:
            if knots[other] is None:
                knots[other] = number
                line.append(other)


# The ways are walked backward first, so each knot gets its number behind those to which it leads:
# no way leads to a greater number, and the numbers serve as ranks.
def knots_of(net):
    order = leaving_order(begins_of(net))
    ends = ends_of(net)
    knots = [None for node in order]
    many = 0
    for begin in reversed(order):
        if knots[begin] is None:
            number_knot(knots, ends, begin, many)
            many = many + 1
    return knots


# Of each knot the marks that ways within it take, as the keys of a dict; None where no way is within.
def marks_within(net, knots):
    within = [None for node in knots]
    for way in net[1]:
        knot = knots[way[0]]
        if knot == knots[way[1]]:
            if within[knot] is None:
                within[knot] = {}
            for mark in way[2]:
                within[knot][mark] = True
    return within


def missing_marks(taken, marks):
    return [mark for mark in range(marks) if mark not in taken]


def is_fair(taken, marks):
    return taken is not None and len(missing_marks(taken, marks)) == 0


# What the nodes of a knot that is not fair lack; where no way stays within, nothing has to be told.
def lack_of(taken, marks):
    if taken is None:
        return None
    return missing_marks(taken, marks)[0]


# The wanted nodes, and all that are come to from them by the leads, in whatever many steps.
def spread(leads, wanted):
    found = list(wanted)
    line = [node for node, truth in enumerate(wanted) if truth]
    while len(line) > 0:
        node = line.pop()
        for other in leads[node]:
            if not found[other]:
                found[other] = True
                line.append(other)
    return found


def shut(net):
    marks = net[2]
    knots = knots_of(net)
    within = marks_within(net, knots)
    free = spread(begins_of(net), [is_fair(within[knot], marks) for knot in knots])
    rows = []
    for node, knot in enumerate(knots):
        rows.append(None if free[node] else (knot, lack_of(within[knot], marks)))
    return rows


# The paper's tuples of the nodes that are come to from the starts, as (node, rank, lack): no paper for
# them does with fewer.
def paper_from(net, starts):
    wanted = [False for node in range(net[0])]
    for start in starts:
        wanted[start] = True
    needed = spread(ends_of(net), wanted)
    paper = []
    for node, row in enumerate(shut(net)):
        if needed[node]:
            paper.append((node, row[0], row[1]))
    return paper


def traced(ways, came_by, last):
    path = [last]
    while came_by[ways[path[-1]][0]] is not None:
        path.append(came_by[ways[path[-1]][0]])
    return path[::-1]


# The fewest ways from a node on of which the last is a wanted one; None where none is come to.
def shortest_path(ways, leaving, begin, wanted):
    came_by = {begin: None}
    line = [begin]
    place = 0
    while place < len(line):
        node = line[place]
        for number in leaving[node]:
            if wanted[number]:
                return traced(ways, came_by, number)
            end = ways[number][1]
            if end not in came_by:
                came_by[end] = number
                line.append(end)
        place = place + 1
    return None


# Of each node, the numbers of the ways that leave it; of these the wanted ones alone.
def ways_leaving(net, wanted):
    leaving = [[] for node in range(net[0])]
    for number, way in enumerate(net[1]):
        if wanted[number]:
            leaving[way[0]].append(number)
    return leaving


def ring_within(net, knots, begin):
    ways = net[1]
    leaving = ways_leaving(net, [knots[way[0]] == knots[way[1]] for way in ways])
    ring = []
    here = begin
    for mark in range(net[2]):
        if not is_taken(ways, mark, ring):
            ring.extend(shortest_path(ways, leaving, here, [mark in way[2] for way in ways]))
            here = ways[ring[-1]][1]
    if len(ring) == 0 or here != begin:
        ring.extend(shortest_path(ways, leaving, here, [way[1] == begin for way in ways]))
    return ring


def ring_from(net, node):
    ways = net[1]
    knots = knots_of(net)
    within = marks_within(net, knots)
    fair = [is_fair(within[knot], net[2]) for knot in knots]
    if fair[node]:
        return ([], ring_within(net, knots, node))
    leaving = ways_leaving(net, [True for way in ways])
    stem = shortest_path(ways, leaving, node, [fair[way[1]] for way in ways])
    if stem is None:
        return None
    return (stem, ring_within(net, knots, ways[stem[-1]][1]))


# A fair ring from the first of some nodes that has one; None where none of them has.
def fair_ring(net, nodes):
    rows = shut(net)
    for node in nodes:
        if rows[node] is None:
            return ring_from(net, node)
    return None
