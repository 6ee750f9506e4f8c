"""Plain sentences: those of the words yes, lamp, not, and, next, until alone."""

YES = ("yes",)


def denied(plain):
    if plain[0] == "not":
        return plain[1]
    return ("not", plain)


def plain_with_one(word, inner):
    if word == "not":
        return denied(inner)
    if word == "next":
        return ("next", inner)
    if word == "atlast":
        return ("until", YES, inner)
    if word == "always":
        return ("not", ("until", YES, denied(inner)))
    if word == "again":
        return ("not", ("until", YES, ("not", ("until", YES, inner))))
    return ("until", YES, ("not", ("until", YES, denied(inner))))


def plain_with_two(word, left, right):
    if word == "or":
        return ("not", ("and", denied(left), denied(right)))
    if word == "then":
        return ("not", ("and", left, denied(right)))
    if word == "frees":
        return ("not", ("until", denied(left), denied(right)))
    return (word, left, right)


def plain(sentence):
    word = sentence[0]
    if word == "no":
        return ("not", YES)
    if word == "yes" or word == "lamp":
        return sentence
    if len(sentence) == 2:
        return plain_with_one(word, plain(sentence[1]))
    return plain_with_two(word, plain(sentence[1]), plain(sentence[2]))
