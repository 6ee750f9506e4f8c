"""Steps: the looks of a book at a moment with all claims, told by the numbers of claims among all claims."""

from lassoscribe.books import book_of
from lassoscribe.books import lamps_in
from lassoscribe.books import waits
from lassoscribe.errors import NoSentence
from lassoscribe.errors import TooMuch
from lassoscribe.looks import all_claims
from lassoscribe.looks import claims_of
from lassoscribe.looks import eased
from lassoscribe.looks import look
from lassoscribe.moments import all_moments
from lassoscribe.plains import plain
from lassoscribe.sentences import is_sentence

MOST_WAITS = 5
MOST_LAMPS = 3


def claims_for(rows):
    return all_claims(len(waits(rows)))


# One step for each of all claims, (begin, moment, end, taken, view): it leads from the claims of the
# view to the claims looked with, and takes the hopes eased.
def steps_at(rows, moment):
    every = claims_for(rows)
    numbers = dict([(claims, number) for number, claims in enumerate(every)])
    steps = []
    for end, claims in enumerate(every):
        view = look(rows, moment, claims)
        begin = numbers[claims_of(rows, view)]
        steps.append((begin, moment, end, eased(rows, view), view))
    return steps


def steps_of(rows):
    steps = []
    for moment in all_moments(lamps_in(rows)):
        steps.extend(steps_at(rows, moment))
    return steps


def book_told(sentences):
    for sentence in sentences:
        if not is_sentence(sentence):
            raise NoSentence("this is no sentence")
    return book_of([plain(sentence) for sentence in sentences])


def refuse_more_waits(rows, most):
    if len(waits(rows)) > most:
        raise TooMuch("the book has too many waits")


def bounded_book(sentences, most_waits):
    book = book_told(sentences)
    refuse_more_waits(book[0], most_waits)
    if len(lamps_in(book[0])) > MOST_LAMPS:
        raise TooMuch("the book has too many lamps")
    return book
