"""Holds the answers for many programs against facts that are put in one at a time by plain rules."""

import random
import unittest

from helper import arrows, as_bytes, ask, ask_each, table_lines

SIGNS = {"fun": "f", "pair": "p", "new": "r"}
PROGRAMS = 1000


SHAPES = ["fun", "let", "if", "pair", "fst", "snd", "new", "get", "set", "add", "call", "call", "call"]
# What a part is likely to be, so that something flows by the ways that ask for a kind.
FITTING = {
    "call": ["fun", "if"], "let": ["fun", "pair", "new", "if"], "if": ["fun"], "fst": ["pair", "if"],
    "snd": ["pair", "if"], "get": ["new", "if"], "set": ["new", "if"],
}


def make_program(source, room, depth, names, shapes=SHAPES):
    """A program's text with at most so many nodes, and how many it has."""
    counts = {"fun": 1, "let": 2, "if": 3, "pair": 2, "set": 2, "add": 2, "call": 2}
    shape = source.choice(shapes)
    count = counts.get(shape, 1)
    if depth == 8 or room < 1 + count or source.random() < 0.05 + 0.1 * len(names):
        return source.choice([str(source.randrange(100)), "in"] + names * 4), 1
    used = 1
    name = source.choice(["x", "y", "call", "zz"])
    words = [] if shape == "call" else [shape]
    if shape in ("fun", "let"):
        words.append(name)
    for k in range(count):
        inner = names + [name] if shape in ("fun", "let") and k == count - 1 else names
        share = room - used - (count - 1 - k)
        share = share if k == count - 1 else max(1, share * 2 // 3)
        likely = FITTING.get(shape, SHAPES) if source.random() < 0.5 else SHAPES
        text, nodes = make_program(source, share, depth + 1, inner, likely)
        used += nodes
        words.append(text)
    return f"({' '.join(words)})", used


def nodes_of(text):
    """For each label: the kind, the labels of the parts, the binder's label or None."""
    words = text.replace("(", " ( ").replace(")", " ) ").split()
    nodes = []

    def read(scope):
        label = len(nodes)
        nodes.append(None)
        word = words.pop(0)
        if word != "(":
            nodes[label] = ("num", [], None) if word == "in" or word.isdigit() else ("name", [], scope[word])
            return label
        kind = words.pop(0) if words[0] in "fun let if pair fst snd new get set add".split() else "call"
        inner = dict(scope)
        if kind in ("fun", "let"):
            inner[words.pop(0)] = label
        parts = [read(scope)] if kind == "let" else []
        while words[0] != ")":
            parts.append(read(inner))
        words.pop(0)
        nodes[label] = (kind, parts, None)
        return label

    read({})
    return nodes


def needed(nodes, facts):
    """All that the facts need: facts are pairs of a place as in a table's text, and a sort."""
    def at(place):
        return {sort for where, sort in facts if where == place}

    def labels(node, sign):
        return [int(sort[1:]) for sort in at(f"n{node}") if sort[0] == sign]

    ways = []
    for label, (kind, parts, binder) in enumerate(nodes):
        here = f"n{label}"
        ends = [f"n{part}" for part in parts]
        if kind in ("num", "add"):
            yield here, "num"
        if kind in SIGNS:
            yield here, f"{SIGNS[kind]}{label}"
        if kind == "name":
            ways.append((f"x{binder}", here))
        if kind == "let":
            ways += [(ends[0], f"x{label}"), (ends[1], here)]
        if kind == "if":
            ways += [(ends[1], here), (ends[2], here)]
        if kind == "pair":
            ways += [(ends[0], f"a{label}"), (ends[1], f"b{label}")]
        if kind == "new":
            ways.append((ends[0], f"c{label}"))
        if kind == "set":
            ways += [(ends[1], here)] + [(ends[1], f"c{made}") for made in labels(parts[0], "r")]
        if kind == "call":
            for made in labels(parts[0], "f"):
                ways += [(ends[1], f"x{made}"), (f"n{nodes[made][1][0]}", here)]
        if kind in ("fst", "snd"):
            ways += [(f"{'a' if kind == 'fst' else 'b'}{made}", here) for made in labels(parts[0], "p")]
        if kind == "get":
            ways += [(f"c{made}", here) for made in labels(parts[0], "r")]
    for begin, end in ways:
        for sort in at(begin):
            yield end, sort


def least_facts(nodes):
    facts = set()
    while True:
        missing = set(needed(nodes, facts)) - facts
        if not missing:
            return facts
        facts |= missing


def lines_of(facts):
    sorts = {}
    for place, sort in facts:
        sorts.setdefault(place, []).append(sort)
    places = sorted(sorts, key=lambda place: ("nxac".index(place[0].replace("b", "a")), int(place[1:]), place))
    lines = []
    for place in places:
        rising = sorted(sorts[place], key=lambda sort: -1 if sort == "num" else int(sort[1:]))
        lines.append(" ".join([place] + rising))
    return lines


def arrows_of(nodes, facts):
    return sorted((label, int(sort[1:])) for label, node in enumerate(nodes) if node[0] == "call"
                  for place, sort in facts if place == f"n{node[1][0]}" and sort[0] == "f")


class ManyPrograms(unittest.TestCase):
    def check(self, text, count):
        nodes = nodes_of(text)
        facts = least_facts(nodes)
        kinds = [node[0] for node in nodes]
        names = kinds.count("fun") + kinds.count("let")
        places = len(nodes) + names + 2 * kinds.count("pair") + kinds.count("new")
        sorts = 1 + kinds.count("fun") + kinds.count("pair") + kinds.count("new")
        self.assertEqual(len(nodes), count)
        self.assertEqual(ask(("program", text), ("size",)),
                         [[count, len(facts)], [count, places, sorts, len(facts)]])
        self.assertEqual(table_lines(text), lines_of(facts))
        pairs = arrows_of(nodes, facts)
        self.assertEqual(arrows(text), pairs)
        for label, told in ask_each(text, "callers").items():
            sites = [site for site, made in pairs if made == label]
            self.assertEqual(told, [len(sites)] + sites)

    def test_many_programs(self):
        source = random.Random(1)
        called = 0
        for k in range(PROGRAMS):
            text, count = make_program(source, 30, 0, [])
            with self.subTest(text=text):
                self.check(text, count)
            called += arrows(text) != []
        # Without calls that have functions these programs would show little.
        self.assertGreater(called, PROGRAMS // 8)

    def test_programs_with_a_byte_changed(self):
        source = random.Random(2)
        for k in range(PROGRAMS):
            text = as_bytes(make_program(source, 30, 0, [])[0])
            spot = source.randrange(len(text))
            text[spot] = source.choice(as_bytes("() 019xyinfz") + [0, 10, 255])
            answered = ask(("program", text), ("size",))
            if answered[0] == [-1]:
                self.assertEqual(answered[1], [1, 1, 1, 1])
            else:
                changed = "".join(map(chr, text))
                self.check(changed, len(nodes_of(changed)))


if __name__ == "__main__":
    unittest.main()
