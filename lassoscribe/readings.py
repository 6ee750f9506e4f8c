"""Readings: what the rows of a book say at each place of a run, and sentences read by them."""

from lassoscribe.books import book_of
from lassoscribe.books import hopes
from lassoscribe.errors import NoRun
from lassoscribe.errors import NoSentence
from lassoscribe.looks import is_eased
from lassoscribe.looks import view_with
from lassoscribe.plains import plain
from lassoscribe.runs import is_run
from lassoscribe.sentences import is_sentence


# A column has a row's truths, one for each place of stem and ring; begin is the ring's first place.
def until_column(left, right, begin):
    count = len(left)
    truth = False
    # Gone back once round the ring, with nothing promised behind it, the ring's first truth is
    # found: what does not come within one turn never comes.
    for place in range(count - 1, begin - 1, -1):
        truth = right[place] or (left[place] and truth)
    backward = []
    for place in range(count - 1, -1, -1):
        truth = right[place] or (left[place] and truth)
        backward.append(truth)
    return backward[::-1]


def column_of(row, columns, moments, begin):
    word = row[0]
    if word == "lamp":
        return [row[1] in moment for moment in moments]
    if word == "not":
        return [not truth for truth in columns[row[1]]]
    if word == "and":
        return [one and other for one, other in zip(columns[row[1]], columns[row[2]])]
    if word == "next":
        inner = columns[row[1]]
        return inner[1:] + [inner[begin]]
    if word == "until":
        return until_column(columns[row[1]], columns[row[2]], begin)
    return [True for moment in moments]


def columns_of(rows, run):
    moments = run[0] + run[1]
    columns = []
    for row in rows:
        columns.append(column_of(row, columns, moments, len(run[0])))
    return columns


def places_true(sentence, run):
    if not is_sentence(sentence):
        raise NoSentence("this is no sentence")
    if not is_run(run):
        raise NoRun("this is no run")
    book = book_of([plain(sentence)])
    return columns_of(book[0], run)[book[1][0]]


def true_on(sentence, run):
    return places_true(sentence, run)[0]


def view_at(columns, place):
    return tuple([column[place] for column in columns])


def reading(rows, run):
    columns = columns_of(rows, run)
    return [view_at(columns, place) for place in range(len(run[0]) + len(run[1]))]


def is_eased_on(rows, hope, views):
    return any([is_eased(rows, hope, view) for view in views])


def is_reading(rows, run, views):
    begin = len(run[0])
    moments = run[0] + run[1]
    if len(views) != len(moments) or any([len(view) != len(rows) for view in views]):
        return False
    behind = views[1:] + [views[begin]]
    for place, moment in enumerate(moments):
        if views[place] != view_with(rows, moment, behind[place]):
            return False
    return all([is_eased_on(rows, hope, views[begin:]) for hope in hopes(rows)])
