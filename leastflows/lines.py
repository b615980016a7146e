"""A table's text: a line for each place that has something."""

from leastflows.least import NUMBERS, Table
from leastflows.texts import bytes_of, signs_of

# By the first number of what a place, a sort is told by.
PLACE_SIGNS = ("n", "x", "a", "b", "c")
SORT_SIGNS = ("num", "f", "p", "r")
ALLOWED_SIGNS = "abcfmnprux0123456789 \n"


class NotTable(Exception):
    pass


def place_word(place):
    return PLACE_SIGNS[place[0]] + str(place[1])


def sort_word(sort):
    if sort == NUMBERS:
        return SORT_SIGNS[0]
    return SORT_SIGNS[sort[0]] + str(sort[1])


def write_table(table):
    lines = []
    for place in table.places:
        sorts = table.sorts_at(place)
        if len(sorts) > 0:
            words = [place_word(place)] + [sort_word(sort) for sort in sorts]
            lines.append(" ".join(words) + "\n")
    return bytes_of("".join(lines))


def read_table(nodes, text):
    table = Table(nodes)
    put_words(table, text)
    # Whatever the words tell, a table has one text alone: so order, doubles,
    # blanks and ends of lines need no look of their own.
    if write_table(table) != text:
        raise NotTable()
    return table


def put_words(table, text):
    signs = signs_of(text, ALLOWED_SIGNS)
    if signs is None:
        raise NotTable()
    places = {}
    for place in table.places:
        places[place_word(place)] = place
    sorts = {}
    for sort in table.sorts:
        sorts[sort_word(sort)] = sort
    for line in signs.splitlines():
        words = line.split(" ")
        if words[0] not in places:
            raise NotTable()
        for word in words[1:]:
            if word not in sorts:
                raise NotTable()
            table.put(places[words[0]], sorts[word])
