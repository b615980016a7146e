"""Runs a program on an input: which facts its flows tell, and which arrows its calls are."""

from leastflows.least import FUNCTION, NODE, NUMBER, PAIR, REFERENCE, own_sort

MOST_STEPS = 300
NUMBERS_END = 100

# How many values a node waits for before it gives its own: a call for those of
# its parts and of the body, an if for those of its first part and of one more.
WAITED_COUNTS = {
    "number": 0,
    "in": 0,
    "name": 0,
    "fun": 0,
    "call": 3,
    "let": 2,
    "if": 2,
    "pair": 2,
    "fst": 1,
    "snd": 1,
    "new": 1,
    "get": 1,
    "set": 2,
    "add": 2,
}


# The run is wrong or long.
class StandsStill(Exception):
    pass


class Value:
    # Held is a number, what a function's names are bound to, or a list of
    # the values in a pair or reference.
    def __init__(self, what, held):
        self.what = what
        self.held = held


# A node that has been come to and has not given its value yet.
class Started:
    def __init__(self, label, scope):
        self.label = label
        self.scope = scope
        self.given = []


# The strings are not kept: no answer tells two flows apart by them.
class Run:
    def __init__(self, nodes, number):
        self.nodes = nodes
        self.number = number
        self.steps = 0
        self.waiting = []
        self.facts = {}
        self.arrows = {}


# The nodes that wait for others are kept in a list: they may stand deeper
# in one another than Python's own calls should.
def run_program(nodes, number):
    run = Run(nodes, number)
    try:
        come_to(run, 0, {})
        while len(run.waiting) > 0:
            go_on(run, run.waiting[-1])
    except StandsStill:
        pass
    return run


def come_to(run, label, scope):
    if run.steps == MOST_STEPS:
        raise StandsStill()
    run.steps += 1
    run.waiting.append(Started(label, scope))


def go_on(run, started):
    kind = run.nodes[started.label].kind
    if len(started.given) < WAITED_COUNTS[kind]:
        come_to_next(run, started)
    else:
        finish(run, started)


def finish(run, started):
    value = give(run, started)
    run.facts[((NODE, started.label), value.what)] = True
    run.waiting.pop()
    if len(run.waiting) > 0:
        run.waiting[-1].given.append(value)


def come_to_next(run, started):
    node = run.nodes[started.label]
    turn = len(started.given)
    if node.kind == "call" and turn == 2:
        come_to_body(run, started)
    elif node.kind == "let" and turn == 1:
        come_to(run, node.parts[1], bind(started.scope, started.label, started.given[0]))
    elif node.kind == "if" and turn == 1:
        chosen = 1 if held_by(started.given[0], NUMBER) == 0 else 2
        come_to(run, node.parts[chosen], started.scope)
    else:
        come_to(run, node.parts[turn], started.scope)


def come_to_body(run, started):
    scope = held_by(started.given[0], FUNCTION)
    made = started.given[0].what[1]
    # Ahead of the body: the call has come about, though the run may be too long for the body.
    run.arrows[(started.label, made)] = True
    come_to(run, run.nodes[made].parts[0], bind(scope, made, started.given[1]))


# A copy, since functions keep the scope in which they were made.
def bind(scope, binder, value):
    inner = dict(scope)
    inner[binder] = value
    return inner


def held_by(value, needed):
    if value.what[0] != needed:
        raise StandsStill()
    return value.held


def give(run, started):
    what = own_sort(run.nodes, started.label)
    if what is None:
        return hand_on(run, started)
    return Value(what, make_held(run, started))


def make_held(run, started):
    node = run.nodes[started.label]
    if node.kind == "number":
        return node.number
    if node.kind == "in":
        return run.number
    if node.kind == "add":
        addends = [held_by(value, NUMBER) for value in started.given]
        return sum(addends) % NUMBERS_END
    if node.kind == "fun":
        return started.scope
    return list(started.given)


def hand_on(run, started):
    node = run.nodes[started.label]
    given = started.given
    if node.kind == "name":
        return started.scope[node.binder]
    if node.kind == "fst":
        return held_by(given[0], PAIR)[0]
    if node.kind == "snd":
        return held_by(given[0], PAIR)[1]
    if node.kind == "get":
        return held_by(given[0], REFERENCE)[0]
    if node.kind == "set":
        inside = held_by(given[0], REFERENCE)
        inside[0] = given[1]
    return given[-1]
