"""Reads a program's text: its nodes by their labels, and for each name its binder."""

from leastflows.texts import signs_of

LETTERS = "abcdefghijklmnopqrstuvwxyz"
DIGITS = "0123456789"
SINGLE_SIGNS = "() "
END = ""
INPUT_NAME = "in"
LONGEST_NAME = 4
LONGEST_NUMBER = 2
MOST_NODES = 30
MOST_AROUND = 8

# These are the words that are no names, so "call", which is a name, is not among them.
PART_COUNTS = {
    "fun": 1,
    "let": 2,
    "if": 3,
    "pair": 2,
    "fst": 1,
    "snd": 1,
    "new": 1,
    "get": 1,
    "set": 2,
    "add": 2,
}
CALL_PARTS = 2
BINDERS = ("fun", "let")


class NotProgram(Exception):
    pass


class Node:
    def __init__(self, kind, binder, number):
        self.kind = kind
        self.binder = binder
        self.number = number
        self.parts = []


class Reader:
    def __init__(self, tokens):
        self.tokens = tokens
        self.at = 0
        self.nodes = []

    def look(self):
        return self.tokens[self.at]

    def take(self):
        token = self.tokens[self.at]
        # The end stays where it is, so that looking behind it finds it again.
        if token != END:
            self.at += 1
        return token

    def expect(self, token):
        if self.take() != token:
            raise NotProgram()


def read_program(text):
    reader = Reader(split_tokens(text))
    read_expression(reader, {}, 0)
    reader.expect(END)
    return reader.nodes


def split_tokens(text):
    signs = signs_of(text, SINGLE_SIGNS + LETTERS + DIGITS)
    if signs is None:
        raise NotProgram()
    tokens = []
    word = ""
    for sign in signs:
        if sign in SINGLE_SIGNS:
            if word != "":
                tokens.append(word)
            word = ""
            tokens.append(sign)
        else:
            word += sign
    if word != "":
        tokens.append(word)
    tokens.append(END)
    return tokens


# The limits are looked at before anything is read, so a text that nests
# too deep is refused long before Python's own limit.
def read_expression(reader, scope, around):
    if around > MOST_AROUND or len(reader.nodes) == MOST_NODES:
        raise NotProgram()
    token = reader.take()
    if token == "(":
        read_brackets(reader, scope, around)
    else:
        reader.nodes.append(plain_node(token, scope))


def plain_node(token, scope):
    if is_number(token):
        return Node("number", None, int(token))
    if token == INPUT_NAME:
        return Node("in", None, None)
    if token not in scope:
        raise NotProgram()
    return Node("name", scope[token], None)


def read_brackets(reader, scope, around):
    label = len(reader.nodes)
    kind = read_kind(reader)
    node = Node(kind, None, None)
    reader.nodes.append(node)
    last_scope = scope
    if kind in BINDERS:
        last_scope = read_bound_name(reader, scope, label)
    last = PART_COUNTS.get(kind, CALL_PARTS) - 1
    for k in range(last + 1):
        if k > 0:
            reader.expect(" ")
        node.parts.append(len(reader.nodes))
        # A binder binds its name in its last part alone: not in a let's own part.
        read_expression(reader, last_scope if k == last else scope, around + 1)
    reader.expect(")")


def read_kind(reader):
    if reader.look() not in PART_COUNTS:
        return "call"
    kind = reader.take()
    reader.expect(" ")
    return kind


def read_bound_name(reader, scope, label):
    name = reader.take()
    if name == INPUT_NAME or not is_name(name):
        raise NotProgram()
    reader.expect(" ")
    inner = dict(scope)
    inner[name] = label
    return inner


def is_number(token):
    if not token.isdigit() or len(token) > LONGEST_NUMBER:
        return False
    return token == "0" or not token.startswith("0")


def is_name(token):
    return token.isalpha() and len(token) <= LONGEST_NAME and token not in PART_COUNTS
