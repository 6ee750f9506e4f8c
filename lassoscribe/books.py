"""Books: plain sentences laid out as rows that name the rows ahead of them."""

from lassoscribe.sentences import parts_of


def row_number(rows, numbers, row):
    if row not in numbers:
        numbers[row] = len(rows)
        rows.append(row)
    return numbers[row]


def lay(rows, numbers, sentence):
    if sentence[0] == "lamp":
        return row_number(rows, numbers, sentence)
    row = (sentence[0],)
    for part in parts_of(sentence):
        row = row + (lay(rows, numbers, part),)
    return row_number(rows, numbers, row)


def book_of(some):
    rows = []
    numbers = {}
    spots = [lay(rows, numbers, sentence) for sentence in some]
    return (rows, spots)


def unfolded(rows, spot):
    # Rows name only rows ahead, so what a row names is always built before it.
    built = []
    for row in rows[:spot + 1]:
        if row[0] == "lamp":
            built.append(row)
        else:
            built.append((row[0],) + tuple([built[number] for number in row[1:]]))
    return built[spot]


def lamps_in(rows):
    return "".join(sorted(set([row[1] for row in rows if row[0] == "lamp"])))


def waits(rows):
    under_next = [row[1] for row in rows if row[0] == "next"]
    return sorted(set(hopes(rows)) | set(under_next))


def hopes(rows):
    return [number for number, row in enumerate(rows) if row[0] == "until"]
