"""Machines: states with moments and ways between them, whose walks show runs."""

from lassoscribe.moments import is_moment

MOST_STATES = 8
MOST_WAYS = 24
MOST_MARKS = 3


def is_number_below(thing, count):
    return isinstance(thing, int) and not isinstance(thing, bool) and 0 <= thing < count


def are_numbers_once(thing, count):
    if not isinstance(thing, list) or not all([is_number_below(number, count) for number in thing]):
        return False
    return len(set(thing)) == len(thing)


def is_way(thing, count):
    if not isinstance(thing, tuple) or len(thing) != 2:
        return False
    return is_number_below(thing[0], count) and is_number_below(thing[1], count)


def are_moments(thing):
    if not isinstance(thing, list) or len(thing) == 0 or len(thing) > MOST_STATES:
        return False
    return all([is_moment(moment) for moment in thing])


def are_ways(thing, count):
    if not isinstance(thing, list) or len(thing) > MOST_WAYS:
        return False
    return all([is_way(way, count) for way in thing]) and len(set(thing)) == len(thing)


def are_marks(thing, many_ways):
    if not isinstance(thing, list) or len(thing) > MOST_MARKS:
        return False
    return all([are_numbers_once(mark, many_ways) for mark in thing])


def is_machine(thing):
    if not isinstance(thing, tuple) or len(thing) != 4:
        return False
    lit = thing[0]
    ways = thing[1]
    if not are_moments(lit) or not are_ways(ways, len(lit)):
        return False
    return are_numbers_once(thing[2], len(lit)) and are_marks(thing[3], len(ways))


# What follows each of some states, the last one followed by what is handed in for it.
def steps_along(states, following):
    return list(zip(states, states[1:] + [following]))


def is_gone(ways, mark, steps):
    return any([ways[number] in steps for number in mark])


def is_walk(machine, stem, ring):
    ways = machine[1]
    if len(ring) == 0 or (stem + ring)[0] not in machine[2]:
        return False
    if not all([step in ways for step in steps_along(stem + ring, ring[0])]):
        return False
    around = steps_along(ring, ring[0])
    return all([is_gone(ways, mark, around) for mark in machine[3]])


def lit_along(machine, stem, ring):
    lit = machine[0]
    return ([lit[state] for state in stem], [lit[state] for state in ring])


def machine_of(run):
    lit = run[0] + run[1]
    return (lit, steps_along(list(range(len(lit))), len(run[0])), [0], [])
