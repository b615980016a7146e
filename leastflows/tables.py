"""Answers lists of calls about a program and its least table."""

from leastflows.least import FIRST, FUNCTION, INSIDE, NAME, NODE, SECOND, labels_of_kind, least_table
from leastflows.programs import BINDERS, NotProgram, read_program

FIRST_PROGRAM = "0"


class NoNode(Exception):
    pass


class OtherKind(Exception):
    pass


class Flows:
    def __init__(self):
        self.table = least_table(read_program([ord(sign) for sign in FIRST_PROGRAM]))


def look_up(flows, label):
    nodes = flows.table.nodes
    if label < 0 or label >= len(nodes):
        raise NoNode()
    return nodes[label]


def require_kind(flows, label, kinds):
    if look_up(flows, label).kind not in kinds:
        raise OtherKind()


def tell_set(flows, place):
    sorts = flows.table.sorts_at(place)
    told = [len(sorts)]
    for sort in sorts:
        told.extend(sort)
    return told


def list_arrows(table):
    arrows = []
    for label in labels_of_kind(table.nodes, "call"):
        called = (NODE, table.nodes[label].parts[0])
        arrows.extend([(label, made) for made in table.labels_at(called, FUNCTION)])
    return arrows


def answer_program(flows, text):
    # Read to its end before it is kept: a refused text must leave the old program.
    flows.table = least_table(read_program(text))
    return [len(flows.table.nodes), flows.table.fact_count()]


def answer_node(flows, handed):
    look_up(flows, handed[0])
    return tell_set(flows, (NODE, handed[0]))


def answer_name(flows, handed):
    require_kind(flows, handed[0], BINDERS)
    return tell_set(flows, (NAME, handed[0]))


def answer_parts(flows, handed):
    require_kind(flows, handed[0], ("pair",))
    return tell_set(flows, (FIRST, handed[0])) + tell_set(flows, (SECOND, handed[0]))


def answer_inside(flows, handed):
    require_kind(flows, handed[0], ("new",))
    return tell_set(flows, (INSIDE, handed[0]))


def answer_arrows(flows, handed):
    arrows = list_arrows(flows.table)
    told = [len(arrows)]
    for arrow in arrows:
        told.extend(arrow)
    return told


def answer_callers(flows, handed):
    require_kind(flows, handed[0], ("fun",))
    callers = [arrow[0] for arrow in list_arrows(flows.table) if arrow[1] == handed[0]]
    return [len(callers)] + callers


def answer_size(flows, handed):
    table = flows.table
    return [len(table.nodes), len(table.places), len(table.sorts), table.fact_count()]


PROGRAM_CALL = 0
ANSWERERS = {
    0: answer_program,
    1: answer_node,
    2: answer_name,
    3: answer_parts,
    4: answer_inside,
    5: answer_arrows,
    6: answer_callers,
    12: answer_size,
}
# How many whole numbers follow the number of each call that is handed no text.
HANDED_COUNTS = {1: 1, 2: 1, 3: 1, 4: 1, 5: 0, 6: 1, 12: 0}


def answer_call(flows, call, handed):
    answerer = ANSWERERS[call]
    try:
        return answerer(flows, handed)
    except NotProgram:
        return [-1]
    except NoNode:
        return [-3]
    except OtherKind:
        return [-5]


def answers(calls):
    flows = Flows()
    told = []
    at = 0
    while at < len(calls):
        call = calls[at]
        if call not in ANSWERERS:
            raise NotImplementedError(f"the call {call} is not built yet")
        if call == PROGRAM_CALL:
            start = at + 2
            end = start + calls[at + 1]
        else:
            start = at + 1
            end = start + HANDED_COUNTS[call]
        answer = answer_call(flows, call, calls[start:end])
        told.append(len(answer))
        told.extend(answer)
        at = end
    return told
