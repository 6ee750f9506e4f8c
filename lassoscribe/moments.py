"""Moments: texts of the lamps that are lit at one place of a run."""


def is_moment(thing):
    if not isinstance(thing, str):
        return False
    last = ""
    for lamp in thing:
        if lamp < "a" or lamp > "z" or lamp <= last:
            return False
        last = lamp
    return True


def cut(moment, lamps):
    return "".join([lamp for lamp in moment if lamp in lamps])


def joined(one, other):
    return "".join(sorted(set(one) | set(other)))


def all_moments(lamps):
    found = [""]
    for lamp in lamps:
        found = found + [moment + lamp for moment in found]
    return sorted(found)
