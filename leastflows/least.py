"""Reckons the least table: places, sorts, what nodes need by themselves, and ways."""

from leastflows.programs import BINDERS

# What a place is told by, ahead of a label.
NODE = 0
NAME = 1
FIRST = 2
SECOND = 3
INSIDE = 4

# What a sort is told by, ahead of a label.
NUMBER = 0
FUNCTION = 1
PAIR = 2
REFERENCE = 3
NUMBERS = (0, 0)

NUMBER_KINDS = ("number", "in", "add")


class Table:
    def __init__(self, nodes):
        self.nodes = nodes
        self.places = list_places(nodes)
        self.sorts = list_sorts(nodes)
        self.facts = {}
        for place in self.places:
            self.facts[place] = {}

    # Tells whether the fact is new: a round without a new one is the last.
    def put(self, place, sort):
        if self.has(place, sort):
            return False
        self.facts[place][sort] = True
        return True

    def has(self, place, sort):
        return sort in self.facts[place]

    def sorts_at(self, place):
        return [sort for sort in self.sorts if sort in self.facts[place]]

    # In the sorts' order, which rises by the labels.
    def labels_at(self, place, made):
        return [sort[1] for sort in self.sorts_at(place) if sort[0] == made]

    def fact_count(self):
        return sum([len(self.facts[place]) for place in self.places])


def list_places(nodes):
    places = [(NODE, label) for label in range(len(nodes))]
    places.extend([(NAME, label) for label, node in enumerate(nodes) if node.kind in BINDERS])
    for label in labels_of_kind(nodes, "pair"):
        places.append((FIRST, label))
        places.append((SECOND, label))
    places.extend([(INSIDE, label) for label in labels_of_kind(nodes, "new")])
    return places


def list_sorts(nodes):
    return [NUMBERS] + [sort for place, sort in list_own_needs(nodes) if sort != NUMBERS]


# The facts that nodes need by themselves, node by node.
def list_own_needs(nodes):
    needs = []
    for label in range(len(nodes)):
        sort = own_sort(nodes, label)
        if sort is not None:
            needs.append(((NODE, label), sort))
    return needs


def own_sort(nodes, label):
    kind = nodes[label].kind
    if kind in NUMBER_KINDS:
        return NUMBERS
    if kind == "fun":
        return (FUNCTION, label)
    if kind == "pair":
        return (PAIR, label)
    if kind == "new":
        return (REFERENCE, label)
    return None


def labels_of_kind(nodes, kind):
    return [label for label, node in enumerate(nodes) if node.kind == kind]


def least_table(nodes):
    table = Table(nodes)
    for place, sort in list_own_needs(nodes):
        table.put(place, sort)
    # What is put in may bring new ways, so each round asks for them again.
    while carry_all(table):
        pass
    return table


def carry_all(table):
    grown = False
    for label in range(len(table.nodes)):
        for begin, end in ways_of(table, label):
            for sort in table.sorts_at(begin):
                if table.put(end, sort):
                    grown = True
    return grown


# None, if the table is closed.
def first_lacking(table):
    for place, sort in list_own_needs(table.nodes):
        if not table.has(place, sort):
            return (place, sort)
    for begin, end, maker in list_ways(table):
        for sort in table.sorts_at(begin):
            if not table.has(end, sort):
                return (end, sort)
    return None


# The ways that the table asks for, in order, each with the label of the node that makes it.
def list_ways(table):
    ways = []
    for label in range(len(table.nodes)):
        ways.extend([(begin, end, label) for begin, end in ways_of(table, label)])
    return ways


def ways_of(table, label):
    return steady_ways(table.nodes, label) + asked_ways(table, label)


# These are there whatever the table has.
def steady_ways(nodes, label):
    node = nodes[label]
    here = (NODE, label)
    parts = [(NODE, part) for part in node.parts]
    if node.kind == "name":
        return [((NAME, node.binder), here)]
    if node.kind == "let":
        return [(parts[0], (NAME, label)), (parts[1], here)]
    if node.kind == "if":
        return [(parts[1], here), (parts[2], here)]
    if node.kind == "pair":
        return [(parts[0], (FIRST, label)), (parts[1], (SECOND, label))]
    if node.kind == "new":
        return [(parts[0], (INSIDE, label))]
    if node.kind == "set":
        return [(parts[1], here)]
    return []


# These hang on what the table has at the node's first part.
def asked_ways(table, label):
    node = table.nodes[label]
    here = (NODE, label)
    parts = [(NODE, part) for part in node.parts]
    if node.kind == "call":
        return call_ways(table, here, parts)
    if node.kind == "fst":
        return [((FIRST, made), here) for made in table.labels_at(parts[0], PAIR)]
    if node.kind == "snd":
        return [((SECOND, made), here) for made in table.labels_at(parts[0], PAIR)]
    if node.kind == "get":
        return [((INSIDE, made), here) for made in table.labels_at(parts[0], REFERENCE)]
    if node.kind == "set":
        return [(parts[1], (INSIDE, made)) for made in table.labels_at(parts[0], REFERENCE)]
    return []


def call_ways(table, here, parts):
    ways = []
    for made in table.labels_at(parts[0], FUNCTION):
        ways.append((parts[1], (NAME, made)))
        ways.append(((NODE, table.nodes[made].parts[0]), here))
    return ways
