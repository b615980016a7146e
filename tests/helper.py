"""Writes calls by their names, and takes the answers apart again."""

from leastflows.tables import answers

NUMBERS = {
    "program": 0, "node": 1, "name": 2, "parts": 3, "inside": 4, "arrows": 5, "callers": 6,
    "table": 7, "check": 8, "why": 9, "run": 10, "spare": 11, "size": 12,
}
SORT_SIGNS = {0: "num", 1: "f", 2: "p", 3: "r"}


def as_bytes(text):
    return [ord(sign) for sign in text] if isinstance(text, str) else list(text)


def as_numbers(calls):
    numbers = []
    for name, *handed in calls:
        numbers.append(NUMBERS[name])
        if name in ("program", "check"):
            text = as_bytes(handed[0])
            numbers += [len(text)] + text
        else:
            numbers += handed
    return numbers


def take_apart(told):
    answered = []
    at = 0
    while at < len(told):
        count = told[at]
        answered.append(told[at + 1:at + 1 + count])
        at += 1 + count
    return answered


def ask(*calls):
    answered = take_apart(answers(as_numbers(calls)))
    if len(answered) != len(calls):
        raise AssertionError(f"{len(calls)} calls, {len(answered)} answers")
    return answered


def ask_of(program, *calls):
    answered = ask(("program", program), *calls)
    if answered[0][0] < 0:
        raise AssertionError(f"no program: {program}")
    return answered[1:]


def node_count(program):
    return ask(("program", program))[0][0]


def tell_sorts(told):
    """The sorts of a set as words, and what stands behind the set."""
    end = 1 + 2 * told[0]
    words = []
    for k in range(1, end, 2):
        sign = SORT_SIGNS[told[k]]
        words.append(sign if told[k] == 0 else f"{sign}{told[k + 1]}")
    return words, told[end:]


def ask_each(program, call):
    """The answers of a call for each node, without those that are refused -5."""
    labels = range(node_count(program))
    answered = ask_of(program, *[(call, label) for label in labels])
    return {label: answer for label, answer in zip(labels, answered) if answer != [-5]}


def table_lines(program):
    """All that node, name, parts and inside tell, one line for each place that has something."""
    lines = []
    for call, signs in (("node", "n"), ("name", "x"), ("parts", "ab"), ("inside", "c")):
        for label, told in ask_each(program, call).items():
            for sign in signs:
                words, told = tell_sorts(told)
                if words:
                    lines.append(" ".join([f"{sign}{label}"] + words))
            if told:
                raise AssertionError(f"{call} {label} tells too much: {told}")
    return lines


def arrows(program):
    told = ask_of(program, ("arrows",))[0]
    pairs = [tuple(told[k:k + 2]) for k in range(1, len(told), 2)]
    if len(pairs) != told[0]:
        raise AssertionError(f"arrows tells {told}")
    return pairs


def table_text(program):
    told = ask_of(program, ("table",))[0]
    if told[0] != len(told) - 1:
        raise AssertionError(f"table tells {told}")
    return "".join(map(chr, told[1:]))


def text_of(lines):
    return "".join([f"{line}\n" for line in lines])


def why_row(program, label, kind, maker):
    """The ways of a row as words: where it begins, and which node makes it."""
    told = ask_of(program, ("why", label, kind, maker))[0]
    ways = [told[k:k + 3] for k in range(1, len(told), 3)]
    if len(told) != 1 + 3 * told[0]:
        raise AssertionError(f"why tells {told}")
    return [f"{'nxabc'[way[0]]}{way[1]} by {way[2]}" for way in ways]


def spare_facts(program, number):
    told = ask_of(program, ("spare", number))[0]
    facts = [told[k:k + 4] for k in range(1, len(told), 4)]
    if len(told) != 1 + 4 * told[0] or any(fact[0] != 0 for fact in facts):
        raise AssertionError(f"spare tells {told}")
    return [f"n{fact[1]} {tell_sorts([1] + fact[2:])[0][0]}" for fact in facts]


def run_facts(program, number):
    """The facts that the run tells: those of the table's nodes that are not spare."""
    facts = []
    for line in table_lines(program):
        place, *sorts = line.split(" ")
        facts += [f"{place} {sort}" for sort in sorts if place[0] == "n"]
    spare = spare_facts(program, number)
    if [fact for fact in facts if fact in spare] != spare:
        raise AssertionError(f"spare tells what the table has not, or out of order: {spare}")
    told = [fact for fact in facts if fact not in spare]
    counts = ask_of(program, ("run", number))[0]
    if counts[:2] != [len(told)] * 2 or counts[2] != counts[3]:
        raise AssertionError(f"run tells {counts}, spare leaves {told}")
    return told
