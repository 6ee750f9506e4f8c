"""The live watch: what can be said of a sentence behind each sign that is seen."""

from lassoscribe.books import lamps_in
from lassoscribe.errors import NoMoment
from lassoscribe.frees import claims_told
from lassoscribe.moments import all_moments
from lassoscribe.moments import cut
from lassoscribe.moments import is_moment
from lassoscribe.runs import ahead
from lassoscribe.steps import MOST_WAITS
from lassoscribe.steps import bounded_book
from lassoscribe.steps import steps_at


class Watch:
    def __init__(self, sentence):
        book = bounded_book([sentence], MOST_WAITS)
        self.spot = book[1][0]
        self.lamps = lamps_in(book[0])
        self.told = claims_told(book[0])
        # All looks are made here once, so that a sign costs no more than one walk over all claims.
        looks = {}
        for moment in all_moments(self.lamps):
            looks[moment] = steps_at(book[0], moment)
        self.looks = looks
        self.signs = []
        self.truths = []

    # A run from the first sign on, on which the sentence has this truth; None where there is none.
    def going_at_first(self, truth):
        for moment in self.looks:
            for begin, moment_there, end, taken, view in self.looks[moment]:
                if view[self.spot] == truth and self.told[end][0] == "run":
                    return ahead([moment], self.told[end][1])
        return None

    def going(self, truth):
        if len(self.signs) == 0:
            return self.going_at_first(truth)
        for number, truth_there in enumerate(self.truths):
            if truth_there == truth and self.told[number][0] == "run":
                # With no signs ahead this is a copy, which is the asker's own.
                return ahead([], self.told[number][1])
        return None

    def says(self):
        if self.going(False) is None:
            return "yes"
        if self.going(True) is None:
            return "no"
        return "open"

    def see(self, moment):
        if not is_moment(moment):
            raise NoMoment("this is no moment")
        steps = self.looks[cut(moment, self.lamps)]
        if len(self.signs) == 0:
            self.truths = [view[self.spot] for begin, moment_there, end, taken, view in steps]
        else:
            # Claims behind this sign make the claims behind the one ahead of it, of which all is known.
            self.truths = [self.truths[begin] for begin, moment_there, end, taken, view in steps]
        self.signs.append(moment)
        return self.says()

    def goings(self):
        return (self.going(True), self.going(False))

    def backs(self):
        return list(self.truths)

    def seen(self):
        return list(self.signs)
