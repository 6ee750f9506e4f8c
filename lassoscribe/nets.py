"""Nets: nodes and ways between them that take marks, and what tells of their fair rings."""


def leads_on(ways, node, numbers):
    here = node
    for number in numbers:
        if number < 0 or number >= len(ways) or ways[number][0] != here:
            return False
        here = ways[number][1]
    return True


def is_taken(ways, mark, numbers):
    return any([mark in ways[number][2] for number in numbers])


def goes(net, node, stem, ring):
    ways = net[1]
    if len(ring) == 0 or not leads_on(ways, node, stem + ring):
        return False
    if ways[ring[-1]][1] != ways[ring[0]][0]:
        return False
    return all([is_taken(ways, mark, ring) for mark in range(net[2])])


def is_rank_and_lack(row, marks):
    lack = row[1]
    return row[0] >= 0 and (lack is None or 0 <= lack < marks)


def keeps_to_ranks(way, rows):
    here = rows[way[0]]
    there = rows[way[1]]
    if here is None:
        return True
    if there is None or there[0] > here[0]:
        return False
    if there[0] < here[0]:
        return True
    return here[1] is not None and here[1] == there[1] and here[1] not in way[2]


def is_paper(net, starts, rows):
    if len(rows) != net[0]:
        return False
    if not all([row is None or is_rank_and_lack(row, net[2]) for row in rows]):
        return False
    if any([rows[start] is None for start in starts]):
        return False
    return all([keeps_to_ranks(way, rows) for way in net[1]])
