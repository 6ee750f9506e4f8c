"""Looks: the truths of a book's rows at one moment, with claims about the place behind it."""

from lassoscribe.books import hopes
from lassoscribe.books import waits


def truth_of(rows, number, moment, claimed, view):
    row = rows[number]
    word = row[0]
    if word == "lamp":
        return row[1] in moment
    if word == "not":
        return not view[row[1]]
    if word == "and":
        return view[row[1]] and view[row[2]]
    if word == "next":
        return claimed[row[1]]
    if word == "until":
        return view[row[2]] or (view[row[1]] and claimed[number])
    return True


# What is claimed stands under the numbers of the waits: so a dict of them serves here,
# and as well the whole view of the place behind.
def view_with(rows, moment, claimed):
    view = []
    for number in range(len(rows)):
        view.append(truth_of(rows, number, moment, claimed, view))
    return tuple(view)


def look(rows, moment, claims):
    return view_with(rows, moment, dict(zip(waits(rows), claims)))


def claims_of(rows, view):
    return tuple([view[number] for number in waits(rows)])


def all_claims(many):
    found = [()]
    for added in range(many):
        found = [(False,) + claims for claims in found] + [(True,) + claims for claims in found]
    return found


def is_eased(rows, hope, view):
    return not view[hope] or view[rows[hope][2]]


def eased(rows, view):
    return tuple([number for number, hope in enumerate(hopes(rows)) if is_eased(rows, hope, view)])
