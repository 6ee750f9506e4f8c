"""Sentences: tuples that begin with a word, and what stands in them."""

from lassoscribe.moments import is_moment

MOST_WORDS = 24

# How many sentences stand behind each word but lamp, behind which a letter stands.
PARTS = {
    "yes": 0, "no": 0,
    "not": 1, "next": 1, "atlast": 1, "always": 1, "again": 1, "settles": 1,
    "and": 2, "or": 2, "then": 2, "until": 2, "frees": 2,
}


# None where no sentence of this word has such parts.
def many_parts(word):
    return PARTS.get(word)


def parts_of(sentence):
    if sentence[0] == "lamp":
        return ()
    return sentence[1:]


def is_lamp(thing):
    return is_moment(thing) and len(thing) == 1


def has_form(thing):
    # What is no text may not be fit to be looked up in a dict.
    if not isinstance(thing, tuple) or len(thing) == 0 or not isinstance(thing[0], str):
        return False
    if thing[0] == "lamp":
        return len(thing) == 2 and is_lamp(thing[1])
    return thing[0] in PARTS and len(thing) == 1 + PARTS[thing[0]]


def is_sentence(thing):
    found = [thing]
    place = 0
    # The count is asked at each step, so that no more is walked than a sentence can have.
    while place < len(found):
        if len(found) > MOST_WORDS or not has_form(found[place]):
            return False
        found.extend(parts_of(found[place]))
        place = place + 1
    return True


def all_within(sentence):
    found = [sentence]
    place = 0
    while place < len(found):
        found.extend(parts_of(found[place]))
        place = place + 1
    return found


def words(sentence):
    return len(all_within(sentence))


def lamps_of(sentence):
    return "".join(sorted(set([part[1] for part in all_within(sentence) if part[0] == "lamp"])))
