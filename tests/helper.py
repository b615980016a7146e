"""Writes calls by their names, and takes the answers apart again."""

from leastflows.tables import answers

NUMBERS = {
    "program": 0, "node": 1, "name": 2, "parts": 3, "inside": 4, "arrows": 5, "callers": 6, "size": 12,
}
SORT_SIGNS = {0: "num", 1: "f", 2: "p", 3: "r"}


def as_bytes(text):
    return [ord(sign) for sign in text] if isinstance(text, str) else list(text)


def as_numbers(calls):
    numbers = []
    for name, *handed in calls:
        numbers.append(NUMBERS[name])
        if name == "program":
            text = as_bytes(handed[0])
            numbers += [len(text)] + text
        else:
            numbers += handed
    return numbers


def take_apart(told):
    answered = []
    at = 0
    while at < len(told):
        count = told[at]
        answered.append(told[at + 1:at + 1 + count])
        at += 1 + count
    return answered


def ask(*calls):
    answered = take_apart(answers(as_numbers(calls)))
    if len(answered) != len(calls):
        raise AssertionError(f"{len(calls)} calls, {len(answered)} answers")
    return answered


def ask_of(program, *calls):
    answered = ask(("program", program), *calls)
    if answered[0][0] < 0:
        raise AssertionError(f"no program: {program}")
    return answered[1:]


def node_count(program):
    return ask(("program", program))[0][0]


def tell_sorts(told):
    """The sorts of a set as words, and what stands behind the set."""
    end = 1 + 2 * told[0]
    words = []
    for k in range(1, end, 2):
        sign = SORT_SIGNS[told[k]]
        words.append(sign if told[k] == 0 else f"{sign}{told[k + 1]}")
    return words, told[end:]


def ask_each(program, call):
    """The answers of a call for each node, without those that are refused -5."""
    labels = range(node_count(program))
    answered = ask_of(program, *[(call, label) for label in labels])
    return {label: answer for label, answer in zip(labels, answered) if answer != [-5]}


def table_lines(program):
    """All that node, name, parts and inside tell, one line for each place that has something."""
    lines = []
    for call, signs in (("node", "n"), ("name", "x"), ("parts", "ab"), ("inside", "c")):
        for label, told in ask_each(program, call).items():
            for sign in signs:
                words, told = tell_sorts(told)
                if words:
                    lines.append(" ".join([f"{sign}{label}"] + words))
            if told:
                raise AssertionError(f"{call} {label} tells too much: {told}")
    return lines


def arrows(program):
    told = ask_of(program, ("arrows",))[0]
    pairs = [tuple(told[k:k + 2]) for k in range(1, len(told), 2)]
    if len(pairs) != told[0]:
        raise AssertionError(f"arrows tells {told}")
    return pairs
