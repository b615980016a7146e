"""Holds the answers for many programs against a second reckoning, by plain rules over words."""

import random
import re
import unittest

from helper import arrows, as_bytes, ask, ask_each, ask_of, run_facts, spare_facts, table_lines, table_text
from helper import text_of, why_row

SIGNS = {"fun": "f", "pair": "p", "new": "r"}
PROGRAMS = 1000


SHAPES = ["fun", "let", "if", "pair", "fst", "snd", "new", "get", "set", "add", "call", "call", "call"]
# What a part is likely to be, so that something flows by the ways that ask for a kind.
FITTING = {
    "call": ["fun", "if"], "let": ["fun", "pair", "new", "if"], "if": ["fun"], "fst": ["pair", "if"],
    "snd": ["pair", "if"], "get": ["new", "if"], "set": ["new", "if"],
}


def make_program(source, room, depth, names, shapes=SHAPES):
    """A program's text with at most so many nodes, and how many it has."""
    counts = {"fun": 1, "let": 2, "if": 3, "pair": 2, "set": 2, "add": 2, "call": 2}
    shape = source.choice(shapes)
    count = counts.get(shape, 1)
    if depth == 8 or room < 1 + count or source.random() < 0.05 + 0.1 * len(names):
        return source.choice([str(source.randrange(100)), "in"] + names * 4), 1
    used = 1
    name = source.choice(["x", "y", "call", "zz"])
    words = [] if shape == "call" else [shape]
    if shape in ("fun", "let"):
        words.append(name)
    for k in range(count):
        inner = names + [name] if shape in ("fun", "let") and k == count - 1 else names
        share = room - used - (count - 1 - k)
        share = share if k == count - 1 else max(1, share * 2 // 3)
        likely = FITTING.get(shape, SHAPES) if source.random() < 0.5 else SHAPES
        text, nodes = make_program(source, share, depth + 1, inner, likely)
        used += nodes
        words.append(text)
    return f"({' '.join(words)})", used


def make_kind(source, depth):
    shape = source.choice(["num", "num", "fun", "pair", "new"]) if depth < 2 else "num"
    if shape == "num":
        return (shape,)
    if shape == "new":
        return (shape, make_kind(source, depth + 1))
    return (shape, make_kind(source, depth + 1), make_kind(source, depth + 1))


def make_fitting(source, kind, room, names):
    """An expression that gives such a kind of value, so that its run is seldom wrong."""
    def part(wanted, inner=names):
        return make_fitting(source, wanted, room - 1, inner)

    fitting = [name for name, known in names.items() if known == kind]
    if fitting and source.random() < (0.4 if room > 0 else 1):
        return source.choice(fitting)
    if "self" in names.values() and room > 0 and source.random() < 0.3:
        return "(s s)"
    other = make_kind(source, 1)
    name = source.choice(["x", "y", "z", "w"])
    shapes = ["own"] * 3 + ["let", "if", "call", "fst", "snd", "get", "set", "self"]
    shape = source.choice(shapes) if room > 1 else "own"
    if shape == "let":
        return f"(let {name} {part(other)} {part(kind, {**names, name: other})})"
    if shape == "if":
        return f"(if {part(('num',))} {part(kind)} {part(kind)})"
    if shape == "call":
        return f"({part(('fun', other, kind))} {part(other)})"
    if shape == "fst":
        return f"(fst {part(('pair', kind, other))})"
    if shape == "snd":
        return f"(snd {part(('pair', other, kind))})"
    if shape == "get":
        return f"(get {part(('new', kind))})"
    if shape == "set":
        return f"(set {part(('new', kind))} {part(kind)})"
    if shape == "self" and room > 2:
        return f"((fun s (s s)) (fun s {part(kind, {**names, 's': 'self'})}))"
    if kind[0] == "fun":
        return f"(fun {name} {part(kind[2], {**names, name: kind[1]})})"
    if kind[0] == "pair":
        return f"(pair {part(kind[1])} {part(kind[2])})"
    if kind[0] == "new":
        return f"(new {part(kind[1])})"
    if room > 0 and source.random() < 0.5:
        return f"(add {part(kind)} {part(kind)})"
    return source.choice([str(source.randrange(100)), "0", "in", "in"])


def make_running(source):
    """A program's text that runs for a while."""
    while True:
        text = make_fitting(source, make_kind(source, 0), 6, {})
        if ask(("program", text))[0][0] >= 15:
            return text


def nodes_of(text):
    """For each label: the kind, the labels of the parts, the binder's label or the number or None."""
    words = text.replace("(", " ( ").replace(")", " ) ").split()
    nodes = []

    def read(scope):
        label = len(nodes)
        nodes.append(None)
        word = words.pop(0)
        if word.isdigit():
            nodes[label] = ("num", [], int(word))
        elif word == "in":
            nodes[label] = ("in", [], None)
        elif word != "(":
            nodes[label] = ("name", [], scope[word])
        if word != "(":
            return label
        kind = words.pop(0) if words[0] in "fun let if pair fst snd new get set add".split() else "call"
        inner = dict(scope)
        if kind in ("fun", "let"):
            inner[words.pop(0)] = label
        parts = [read(scope)] if kind == "let" else []
        while words[0] != ")":
            parts.append(read(inner))
        words.pop(0)
        nodes[label] = (kind, parts, None)
        return label

    read({})
    return nodes


def rank(sort):
    return -1 if sort == "num" else int(sort[1:])


def own_needs(nodes):
    needs = []
    for label, (kind, parts, told) in enumerate(nodes):
        if kind in ("num", "in", "add"):
            needs.append((f"n{label}", "num"))
        if kind in SIGNS:
            needs.append((f"n{label}", f"{SIGNS[kind]}{label}"))
    return needs


def ways_of(nodes, facts):
    """The ways that these facts ask for, in order: where each begins and ends, and the label of its maker."""
    def labels(node, sign):
        return sorted(int(sort[1:]) for place, sort in facts if place == f"n{node}" and sort[0] == sign)

    ways = []
    for label, (kind, parts, told) in enumerate(nodes):
        here = f"n{label}"
        ends = [f"n{part}" for part in parts]
        made = []
        if kind == "name":
            made = [(f"x{told}", here)]
        if kind == "let":
            made = [(ends[0], f"x{label}"), (ends[1], here)]
        if kind == "if":
            made = [(ends[1], here), (ends[2], here)]
        if kind == "pair":
            made = [(ends[0], f"a{label}"), (ends[1], f"b{label}")]
        if kind == "new":
            made = [(ends[0], f"c{label}")]
        if kind == "set":
            made = [(ends[1], here)] + [(ends[1], f"c{inside}") for inside in labels(parts[0], "r")]
        if kind == "call":
            for fun in labels(parts[0], "f"):
                made += [(ends[1], f"x{fun}"), (f"n{nodes[fun][1][0]}", here)]
        if kind in ("fst", "snd"):
            made = [(f"{'a' if kind == 'fst' else 'b'}{pair}", here) for pair in labels(parts[0], "p")]
        if kind == "get":
            made = [(f"c{inside}", here) for inside in labels(parts[0], "r")]
        ways += [(begin, end, label) for begin, end in made]
    return ways


def needed(nodes, facts):
    """All that the facts need, in order: facts are pairs of a place and a sort, as words of a table's text."""
    needs = own_needs(nodes)
    for begin, end, maker in ways_of(nodes, facts):
        needs += [(end, sort) for sort in sorted((sort for place, sort in facts if place == begin), key=rank)]
    return needs


def least_facts(nodes):
    facts = set()
    while True:
        missing = set(needed(nodes, facts)) - facts
        if not missing:
            return facts
        facts |= missing


def places_of(nodes):
    def labels(*kinds):
        return [label for label, node in enumerate(nodes) if node[0] in kinds]

    places = [f"n{label}" for label in range(len(nodes))] + [f"x{label}" for label in labels("fun", "let")]
    for label in labels("pair"):
        places += [f"a{label}", f"b{label}"]
    return places + [f"c{label}" for label in labels("new")]


def sorts_of(nodes):
    return ["num"] + [f"{SIGNS[node[0]]}{label}" for label, node in enumerate(nodes) if node[0] in SIGNS]


def lines_of(nodes, facts):
    lines = []
    for place in places_of(nodes):
        sorts = [sort for sort in sorts_of(nodes) if (place, sort) in facts]
        if sorts:
            lines.append(" ".join([place] + sorts))
    return lines


def arrows_of(nodes, facts):
    return sorted((label, int(sort[1:])) for label, node in enumerate(nodes) if node[0] == "call"
                  for place, sort in facts if place == f"n{node[1][0]}" and sort[0] == "f")


def row_of(nodes, facts, place, sort):
    """Words as why_row tells them, found by the document's rounds."""
    ways = ways_of(nodes, facts)
    rows = [(begin, []) for begin, own in own_needs(nodes) if own == sort]
    fresh = rows
    while fresh:
        found = []
        for last, row in fresh:
            for begin, end, maker in ways:
                if begin == last and end not in [known for known, _ in rows + found]:
                    found.append((end, row + [f"{begin} by {maker}"]))
        rows = rows + found
        fresh = found
    return dict(rows)[place]


def place_numbers(place):
    return ["nxabc".index(place[0]), int(place[1:])]


def sort_numbers(sort):
    return [0, 0] if sort == "num" else [" fpr".index(sort[0]), int(sort[1:])]


def check_of(nodes, facts):
    for place, sort in needed(nodes, facts):
        if (place, sort) not in facts:
            return [0] + place_numbers(place) + sort_numbers(sort)
    return [1, len(facts)]


def facts_of_text(nodes, text):
    """The facts of a table's text, or None."""
    places = places_of(nodes)
    sorts = sorts_of(nodes)
    if not re.fullmatch(r"([a-z0-9]+( [a-z0-9]+)+\n)*", text):
        return None
    rows = [line.split(" ") for line in text.split("\n")[:-1]]
    facts = set()
    last = -1
    for place, *told in rows:
        if place not in places or places.index(place) <= last:
            return None
        last = places.index(place)
        if any(sort not in sorts for sort in told):
            return None
        order = [sorts.index(sort) for sort in told]
        if order != sorted(set(order)):
            return None
        facts |= {(place, sort) for sort in told}
    return facts


class Ended(Exception):
    pass


class SlowRun:
    """A run by the document's words, with strings; what it gives, its flows and its calls."""

    def __init__(self, nodes, number):
        self.nodes = nodes
        self.number = number
        self.steps = 0
        self.flows = []
        self.calls = []
        self.end = "ends"
        try:
            self.give(0, {}, ())
        except Ended as end:
            self.end = str(end)

    def give(self, label, scope, string):
        if self.steps == 300:
            raise Ended("long")
        self.steps += 1
        value = self.work(label, scope, string)
        flow = (label, string, value[0])
        if flow not in self.flows:
            self.flows.append(flow)
        return value

    def work(self, label, scope, string):
        kind, parts, told = self.nodes[label]
        if kind == "num":
            return ("num", told)
        if kind == "in":
            return ("num", self.number)
        if kind == "name":
            return scope[told]
        if kind == "fun":
            return (f"f{label}", scope)
        first = self.give(parts[0], scope, string)
        if kind == "let":
            return self.give(parts[1], {**scope, label: first}, string)
        if kind == "if":
            self.need(first, "n")
            return self.give(parts[1] if first[1] == 0 else parts[2], scope, string)
        second = self.give(parts[1], scope, string) if len(parts) == 2 else None
        if kind == "call":
            self.need(first, "f")
            made = int(first[0][1:])
            call = (label, made, string)
            if call not in self.calls:
                self.calls.append(call)
            return self.give(self.nodes[made][1][0], {**first[1], made: second}, ((label,) + string)[:3])
        if kind == "pair":
            return (f"p{label}", (first, second))
        if kind == "new":
            return (f"r{label}", [first])
        if kind == "add":
            self.need(first, "n")
            self.need(second, "n")
            return ("num", (first[1] + second[1]) % 100)
        self.need(first, "p" if kind in ("fst", "snd") else "r")
        if kind == "set":
            first[1][0] = second
            return second
        return first[1][1 if kind == "snd" else 0]

    def need(self, value, sign):
        if value[0][0] != sign:
            raise Ended("wrong")

    def facts(self):
        return {(f"n{label}", sort) for label, string, sort in self.flows}

    def arrows(self):
        return {(site, made) for site, made, string in self.calls}


class ManyPrograms(unittest.TestCase):
    def check(self, text, count):
        nodes = nodes_of(text)
        facts = least_facts(nodes)
        self.assertEqual(len(nodes), count)
        self.assertEqual(ask(("program", text), ("size",)),
                         [[count, len(facts)], [count, len(places_of(nodes)), len(sorts_of(nodes)), len(facts)]])
        lines = lines_of(nodes, facts)
        self.assertEqual(table_lines(text), lines)
        self.assertEqual(table_text(text), text_of(lines))
        pairs = arrows_of(nodes, facts)
        self.assertEqual(arrows(text), pairs)
        for label, told in ask_each(text, "callers").items():
            sites = [site for site, made in pairs if made == label]
            self.assertEqual(told, [len(sites)] + sites)

    def test_many_programs(self):
        source = random.Random(1)
        called = 0
        for k in range(PROGRAMS):
            text, count = make_program(source, 30, 0, [])
            with self.subTest(text=text):
                self.check(text, count)
            called += arrows(text) != []
        # Without calls that have functions these programs would show little.
        self.assertGreater(called, PROGRAMS // 8)

    def test_programs_with_a_byte_changed(self):
        source = random.Random(2)
        for k in range(PROGRAMS):
            text = as_bytes(make_program(source, 30, 0, [])[0])
            spot = source.randrange(len(text))
            text[spot] = source.choice(as_bytes("() 019xyinfz") + [0, 10, 255])
            answered = ask(("program", text), ("size",))
            if answered[0] == [-1]:
                self.assertEqual(answered[1], [1, 1, 1, 1])
            else:
                changed = "".join(map(chr, text))
                self.check(changed, len(nodes_of(changed)))

    def test_why_of_every_fact(self):
        source = random.Random(3)
        longest = 0
        for k in range(PROGRAMS // 4):
            text = make_running(source) if k % 2 else make_program(source, 30, 0, [])[0]
            nodes = nodes_of(text)
            facts = least_facts(nodes)
            for place, sort in sorted(facts):
                if place[0] == "n":
                    row = why_row(text, int(place[1:]), *sort_numbers(sort))
                    longest = max(longest, len(row))
                    with self.subTest(text=text, place=place, sort=sort):
                        self.assertEqual(row, row_of(nodes, facts, place, sort))
        self.assertGreater(longest, 9)

    def test_why_of_what_is_not_there(self):
        source = random.Random(4)
        for k in range(PROGRAMS // 4):
            text = make_program(source, 30, 0, [])[0]
            nodes = nodes_of(text)
            facts = least_facts(nodes)
            label = source.randrange(len(nodes))
            for sort in sorts_of(nodes):
                if (f"n{label}", sort) not in facts:
                    self.assertEqual(ask_of(text, ("why", label, *sort_numbers(sort))), [[-4]])

    def test_checks_of_some_facts(self):
        source = random.Random(5)
        closed = 0
        for k in range(PROGRAMS):
            text = make_program(source, 30, 0, [])[0]
            nodes = nodes_of(text)
            facts = least_facts(nodes)
            for times in range(source.randrange(4)):
                facts.add((source.choice(places_of(nodes)), source.choice(sorts_of(nodes))))
            if source.random() < 0.5:
                while set(needed(nodes, facts)) - facts:
                    facts |= set(needed(nodes, facts))
            for times in range(source.choice([0, 0, 1, 2, 5, 10])):
                if facts:
                    facts.remove(source.choice(sorted(facts)))
            answer = check_of(nodes, facts)
            closed += answer[0]
            with self.subTest(text=text, facts=sorted(facts)):
                self.assertEqual(ask_of(text, ("check", text_of(lines_of(nodes, facts)))), [answer])
        self.assertGreater(closed, PROGRAMS // 10)
        self.assertLess(closed, PROGRAMS // 2)

    def test_checks_of_texts_with_a_change(self):
        source = random.Random(6)
        tables = 0
        for k in range(PROGRAMS):
            text = make_program(source, 30, 0, [])[0]
            nodes = nodes_of(text)
            changed = text_of(lines_of(nodes, least_facts(nodes)))
            spot = source.randrange(len(changed))
            put = source.choice(["", " ", "\n", "0", "1", "9", " num", "f", "p", "n", "\nn1", changed[spot:spot + 9]])
            changed = changed[:spot] + put + changed[spot + source.randrange(7):]
            facts = facts_of_text(nodes, changed)
            tables += facts is not None
            answer = [-1] if facts is None else check_of(nodes, facts)
            with self.subTest(text=text, changed=changed):
                self.assertEqual(ask_of(text, ("check", changed)), [answer])
        self.assertGreater(tables, PROGRAMS // 50)

    def test_runs(self):
        source = random.Random(7)
        ends = {"ends": 0, "wrong": 0, "long": 0}
        for k in range(PROGRAMS):
            text = make_program(source, 30, 0, [])[0] if k % 4 == 0 else make_running(source)
            nodes = nodes_of(text)
            facts = least_facts(nodes)
            number = source.randrange(10)
            run = SlowRun(nodes, number)
            ends[run.end] += 1
            kept = run.facts()
            with self.subTest(text=text, number=number):
                self.assertLessEqual(kept, facts)
                self.assertEqual(ask_of(text, ("run", number)), [[len(kept)] * 2 + [len(run.arrows())] * 2])
                spare = sorted((fact for fact in facts - kept if fact[0][0] == "n"),
                               key=lambda fact: (int(fact[0][1:]), rank(fact[1])))
                self.assertEqual(spare_facts(text, number), [" ".join(fact) for fact in spare])
                self.assertEqual(set(run_facts(text, number)), {" ".join(fact) for fact in kept})
        self.assertGreater(min(ends.values()), PROGRAMS // 10, ends)


if __name__ == "__main__":
    unittest.main()
