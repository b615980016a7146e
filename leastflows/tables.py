"""Answers lists of calls about a program and its least table."""

from leastflows.least import FIRST, FUNCTION, INSIDE, NAME, NODE, NUMBER, NUMBERS, REFERENCE, SECOND
from leastflows.least import first_lacking, labels_of_kind, least_table
from leastflows.lines import NotTable, read_table, write_table
from leastflows.programs import BINDERS, NotProgram, read_program
from leastflows.rows import find_row
from leastflows.runs import run_program
from leastflows.texts import bytes_of

FIRST_PROGRAM = "0"
LARGEST_INPUT = 9


class NoInput(Exception):
    pass


class NoNode(Exception):
    pass


class NoSort(Exception):
    pass


class OtherKind(Exception):
    pass


class Flows:
    def __init__(self):
        self.table = least_table(read_program(bytes_of(FIRST_PROGRAM)))


def look_up(flows, label):
    nodes = flows.table.nodes
    if label < 0 or label >= len(nodes):
        raise NoNode()
    return nodes[label]


def require_kind(flows, label, kinds):
    if look_up(flows, label).kind not in kinds:
        raise OtherKind()


def require_sort(flows, label, made, maker):
    if maker < 0 or made < NUMBER or made > REFERENCE:
        raise NoSort()
    sort = NUMBERS if made == NUMBER else (made, maker)
    if not flows.table.has((NODE, label), sort):
        raise NoSort()
    return sort


def run_on(flows, number):
    if number < 0 or number > LARGEST_INPUT:
        raise NoInput()
    return run_program(flows.table.nodes, number)


# How many things, and then the numbers of each.
def tell_each(things):
    told = [len(things)]
    for thing in things:
        told.extend(thing)
    return told


def tell_set(flows, place):
    return tell_each(flows.table.sorts_at(place))


def list_arrows(table):
    arrows = []
    for label in labels_of_kind(table.nodes, "call"):
        called = (NODE, table.nodes[label].parts[0])
        arrows.extend([(label, made) for made in table.labels_at(called, FUNCTION)])
    return arrows


def answer_program(flows, text):
    # Read to its end before it is kept: a refused text must leave the old program.
    flows.table = least_table(read_program(text))
    return [len(flows.table.nodes), flows.table.fact_count()]


def answer_node(flows, handed):
    look_up(flows, handed[0])
    return tell_set(flows, (NODE, handed[0]))


def answer_name(flows, handed):
    require_kind(flows, handed[0], BINDERS)
    return tell_set(flows, (NAME, handed[0]))


def answer_parts(flows, handed):
    require_kind(flows, handed[0], ("pair",))
    return tell_set(flows, (FIRST, handed[0])) + tell_set(flows, (SECOND, handed[0]))


def answer_inside(flows, handed):
    require_kind(flows, handed[0], ("new",))
    return tell_set(flows, (INSIDE, handed[0]))


def answer_arrows(flows, handed):
    return tell_each(list_arrows(flows.table))


def answer_callers(flows, handed):
    require_kind(flows, handed[0], ("fun",))
    callers = [arrow[0] for arrow in list_arrows(flows.table) if arrow[1] == handed[0]]
    return [len(callers)] + callers


def answer_table(flows, handed):
    text = write_table(flows.table)
    return [len(text)] + text


def answer_check(flows, text):
    table = read_table(flows.table.nodes, text)
    lacking = first_lacking(table)
    if lacking is None:
        return [1, table.fact_count()]
    return [0] + list(lacking[0]) + list(lacking[1])


def answer_why(flows, handed):
    look_up(flows, handed[0])
    sort = require_sort(flows, handed[0], handed[1], handed[2])
    row = find_row(flows.table, (NODE, handed[0]), sort)
    return tell_each([begin + (maker,) for begin, maker in row])


def answer_run(flows, handed):
    run = run_on(flows, handed[0])
    facts = [place for place, sort in run.facts if flows.table.has(place, sort)]
    arrows = [arrow for arrow in list_arrows(flows.table) if arrow in run.arrows]
    return [len(run.facts), len(facts), len(run.arrows), len(arrows)]


def answer_spare(flows, handed):
    run = run_on(flows, handed[0])
    spare = []
    for label in range(len(flows.table.nodes)):
        place = (NODE, label)
        spare.extend([place + sort for sort in flows.table.sorts_at(place) if (place, sort) not in run.facts])
    return tell_each(spare)


def answer_size(flows, handed):
    table = flows.table
    return [len(table.nodes), len(table.places), len(table.sorts), table.fact_count()]


# The calls that are handed a text: program and check.
TEXT_CALLS = (0, 8)
ANSWERERS = {
    0: answer_program,
    1: answer_node,
    2: answer_name,
    3: answer_parts,
    4: answer_inside,
    5: answer_arrows,
    6: answer_callers,
    7: answer_table,
    8: answer_check,
    9: answer_why,
    10: answer_run,
    11: answer_spare,
    12: answer_size,
}
# How many whole numbers follow the number of each call that is handed no text.
HANDED_COUNTS = {1: 1, 2: 1, 3: 1, 4: 1, 5: 0, 6: 1, 7: 0, 9: 3, 10: 1, 11: 1, 12: 0}


def answer_call(flows, call, handed):
    answerer = ANSWERERS[call]
    try:
        return answerer(flows, handed)
    except NotProgram:
        return [-1]
    except NotTable:
        return [-1]
    except NoInput:
        return [-2]
    except NoNode:
        return [-3]
    except NoSort:
        return [-4]
    except OtherKind:
        return [-5]


def answers(calls):
    flows = Flows()
    told = []
    at = 0
    while at < len(calls):
        call = calls[at]
        if call in TEXT_CALLS:
            start = at + 2
            end = start + calls[at + 1]
        else:
            start = at + 1
            end = start + HANDED_COUNTS[call]
        answer = answer_call(flows, call, calls[start:end])
        told.append(len(answer))
        told.extend(answer)
        at = end
    return told
