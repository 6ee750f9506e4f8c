"""Runs: tuples (stem, ring) of two lists of moments, the ring shown again and again."""

from lassoscribe.moments import cut
from lassoscribe.moments import is_moment

MOST_MOMENTS = 3000


def is_moment_list(thing):
    if not isinstance(thing, list) or len(thing) > MOST_MOMENTS:
        return False
    return all([is_moment(moment) for moment in thing])


def is_run(thing):
    if not isinstance(thing, tuple) or len(thing) != 2:
        return False
    return is_moment_list(thing[0]) and is_moment_list(thing[1]) and len(thing[1]) > 0


def fold(run, place):
    stem_length = len(run[0])
    if place < stem_length:
        return place
    return stem_length + (place - stem_length) % len(run[1])


def sign(run, place):
    spot = fold(run, place)
    stem = run[0]
    if spot < len(stem):
        return stem[spot]
    return run[1][spot - len(stem)]


def turned(ring, steps):
    begin = steps % len(ring)
    return ring[begin:] + ring[:begin]


def rest(run, place):
    stem = run[0]
    if place < len(stem):
        return (stem[place:], list(run[1]))
    return ([], turned(run[1], place - len(stem)))


def ahead(signs, run):
    return (signs + run[0], list(run[1]))


def dimmed(run, lamps):
    stem = [cut(moment, lamps) for moment in run[0]]
    ring = [cut(moment, lamps) for moment in run[1]]
    return (stem, ring)


def shortest_turn(ring):
    for size in range(1, len(ring)):
        # A list that is the same when shifted by a part of its length is that part said again.
        if len(ring) % size == 0 and ring[size:] == ring[:-size]:
            return ring[:size]
    return list(ring)


def least(run):
    stem = run[0]
    ring = shortest_turn(run[1])
    # A stem that ends as the ring does only tells the end of a turn that was begun earlier.
    back = 0
    while back < len(stem) and stem[-1 - back] == ring[-1 - back % len(ring)]:
        back = back + 1
    return (stem[:len(stem) - back], turned(ring, -back))


def parting(one, other):
    # Two rings that agree for as many places as both have together agree for ever
    # (Fine and Wilf), so no common multiple of their lengths has to be walked.
    both_in_rings = max(len(one[0]), len(other[0]))
    for place in range(both_in_rings + len(one[1]) + len(other[1])):
        if sign(one, place) != sign(other, place):
            return place
    return None


def without_repeats(moments, before):
    kept = []
    last = before
    for moment in moments:
        if moment != last:
            kept.append(moment)
        last = moment
    return kept


def thinned(run):
    ring = run[1]
    # The ring's first moment follows the stem once and the ring's own end ever after,
    # so the first turn is laid into the stem.
    stem_and_turn = without_repeats(run[0] + ring, None)
    later_turns = without_repeats(ring, ring[-1])
    if len(later_turns) == 0:
        later_turns = [ring[0]]
    return least((stem_and_turn, later_turns))
