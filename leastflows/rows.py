"""Finds by which row of ways a fact of the least table comes to its place."""

from leastflows.least import list_own_needs, list_ways


# The row's ways, each as the place where it begins and the label of the node that makes it.
def find_row(table, place, sort):
    ways = list_ways(table)
    rows = {}
    for begin, needed in list_own_needs(table.nodes):
        if needed == sort:
            rows[begin] = []
    last = list(rows)
    # The least table has no fact without a row, so some round finds the place.
    while place not in rows:
        last = find_round(ways, rows, last)
    return rows[place]


def find_round(ways, rows, last):
    found = []
    for place in last:
        for begin, end, maker in ways:
            if begin == place and end not in rows:
                rows[end] = rows[begin] + [(begin, maker)]
                found.append(end)
    return found
