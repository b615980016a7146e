"""Promise 1: which texts are a program's, and how many nodes they have."""

import unittest

from helper import arrows, as_bytes, ask, table_lines

WORDS = ("fun", "let", "if", "pair", "fst", "snd", "new", "get", "set", "add")
LARGEST = 4000


def nested(before, middle, after, times):
    return before * times + middle + after * times


def add_tree(leaves):
    if leaves == 1:
        return "0"
    half = leaves // 2
    return f"(add {add_tree(half)} {add_tree(leaves - half)})"


class Texts(unittest.TestCase):
    def assert_programs(self, counts):
        for text, count in counts.items():
            with self.subTest(text=text):
                self.assertEqual(ask(("program", text))[0][0], count)

    def assert_refused(self, texts):
        for text in texts:
            with self.subTest(text=text if len(text) < 99 else len(text)):
                self.assertLessEqual(len(text), LARGEST)
                self.assertEqual(ask(("program", text)), [[-1]])

    def test_each_expression(self):
        self.assert_programs({
            "0": 1, "in": 1, "(fun x x)": 2, "(0 1)": 3, "(in in)": 3, "((fun x x) 1)": 4,
            "(let x 1 x)": 3, "(if 0 1 2)": 4, "(pair 1 2)": 3, "(fst 1)": 2, "(snd 1)": 2,
            "(new 1)": 2, "(get 1)": 2, "(set 1 2)": 3, "(add 1 2)": 3,
            "((fun x (x x)) (fun y (fst y)))": 8,
        })

    def test_answers_nodes_and_facts(self):
        self.assertEqual(ask(("program", "(add 1 2)")), [[3, 3]])
        self.assertEqual(ask(("program", "(1 2)")), [[3, 2]])
        self.assertEqual(ask(("program", "(new (pair 1 2))")), [[4, 7]])

    def test_numbers(self):
        self.assert_programs({str(number): 1 for number in range(100)})
        self.assert_refused(["100", "101", "999", "1000", "9" * LARGEST, "0" * LARGEST])
        self.assert_refused(["00", "01", "09", "010", "(add 00 1)", "(add 1 007)", "(fst 100)"])
        self.assert_refused(["-1", "-0", "+1", "1.0", "1_0", "1e1", "0x1"])

    def test_names(self):
        for name in ("a", "z", "az", "abc", "abcd", "zzzz", "call", "name", "i", "inn", "ins", "funs", "ad", "f"):
            self.assert_programs({f"(fun {name} {name})": 2, f"(let {name} 1 {name})": 3,
                                  f"(fun {name} ({name} 1))": 4})
        for letter in "abcdefghijklmnopqrstuvwxyz":
            self.assert_programs({f"(fun x{letter}y x{letter}y)": 2, f"(fun {letter} {letter})": 2})
        for name in ("abcde", "funny", "a" * 1000, "A", "aB", "a1", "1a", "1", "a_b", "_", "a-b", "x.", "", "?"):
            self.assert_refused([f"(fun {name} 1)", f"(let {name} 1 1)", f"(fun {name} {name})"])

    def test_words_are_no_names(self):
        for word in WORDS:
            self.assert_refused([word, f"({word})", f"(fun {word} 1)", f"(fun {word} {word})", f"(let {word} 1 2)",
                                 f"(fun x {word})", f"(fun x (x {word}))", f"(1 {word})"])

    def test_in_is_not_bound(self):
        self.assert_refused(["(fun in in)", "(fun in 1)", "(let in 1 in)", "(let in 1 1)"])
        self.assert_programs({"(fun x in)": 2, "(let x in in)": 3})

    def test_names_must_be_bound(self):
        self.assert_refused(["x", "(fst x)", "(x 1)", "(1 x)", "(fun x y)", "(fun x xx)", "(fun xx x)",
                             "((fun x x) x)", "(pair (fun x x) x)", "(pair (let x 1 x) x)", "(set x (fun x x))"])

    def test_a_let_binds_in_its_body_alone(self):
        self.assert_refused(["(let x x 1)", "(let x x x)", "(let x (fun y x) x)", "(let x (fst x) 1)"])
        self.assert_programs({"(let x 1 (let x x x))": 5, "(fun x (let x x x))": 4, "(let x (fun x x) x)": 4})

    def test_blanks(self):
        self.assert_refused(["", " ", " 0", "0 ", " (fst 1)", "(fst 1) ", "( fst 1)", "(fst  1)", "(fst 1 )",
                             "(fun  x x)", "(fun x  x)", "(1  2)", "( 1 2)", "(1 2 )", "(let x 1  x)",
                             "(add 1\t2)", "(add 1\n2)", "0\n", "\n0", " " * LARGEST])
        self.assert_refused(["(fst1)", "(fst(fst 1))", "(add 1(fst 1))", "((fst 1)2)", "(fun x(fst x))",
                             "(pair1 2)", "(new1)", "((fst 1)(fst 1))"])

    def test_something_behind_the_end(self):
        self.assert_refused(["0 0", "0)", "0(", "(fst 1))", "(fst 1)0", "(fst 1) 0", "(fst 1)(fst 1)", "in in",
                             "(fun x x)x"])

    def test_brackets(self):
        self.assert_refused(["(", ")", "()", "(0)", "(in)", "((fst 1))", "(fst 1", "fst 1)", "fst 1", "add 1 2",
                             "(add 1 2", "(add (1) 2)", "(add 1 (2))", "((add 1 2)", ")0(", "(fun x x", "fun x x",
                             "[fst 1]", "{fst 1}"])

    def test_too_few_and_too_many_parts(self):
        self.assert_refused(["(1 2 3)", "(fun x)", "(fun x 1 2)", "(fun 1)", "(fun x y 1)", "(let x 1)",
                             "(let x 1 2 3)", "(let 1 2)", "(let 1 2 3)", "(if 1)", "(if 1 2)", "(if 1 2 3 4)",
                             "(fun (x) x)", "(let (x) 1 x)", "(fun (fst 1) 1)"])
        for word in ("pair", "set", "add"):
            self.assert_refused([f"({word} )", f"({word} 1)", f"({word} 1 )", f"({word} 1 2 3)"])
        for word in ("fst", "snd", "new", "get"):
            self.assert_refused([f"({word} )", f"({word} 1 2)"])

    def test_thirty_nodes(self):
        self.assert_programs({add_tree(15): 29, f"(fst {add_tree(15)})": 30, f"(if 0 {add_tree(13)} (fst 0))": 29})
        self.assert_refused([add_tree(16), f"(fst (fst {add_tree(15)}))", f"(fun x {add_tree(16)})", add_tree(256)])

    def test_eight_around_a_node(self):
        shapes = (("(fst ", ")"), ("(fun x ", ")"), ("(let x 1 ", ")"), ("(let x ", " 1)"), ("(1 ", ")"), ("(", " 1)"),
                  ("(pair 1 ", ")"), ("(if 0 1 ", ")"), ("(set ", " 1)"))
        for before, after in shapes:
            inner = nested(before, "0", after, 7)
            self.assertGreater(ask(("program", before + inner + after))[0][0], 8)
            self.assert_refused([nested(before, "0", after, 9), nested(before, "(fst 0)", after, 8)])
        self.assert_programs({nested("(fst ", "in", ")", 8): 9, f"(1 {nested('(get ', '3', ')', 7)})": 10})

    def test_nested_as_deep_as_the_bytes_allow(self):
        self.assert_refused(["(" * LARGEST, ")" * LARGEST, "(" * 2000 + ")" * 2000, "()" * 2000])
        self.assert_refused([nested("(fst ", "0", ")", 666), nested("(", "0", " 0)", 999), nested("(0 ", "0", ")", 999),
                             nested("(fun x ", "x", ")", 499), nested("(", "0", ")", 1999), "(fst " * 800])

    def test_other_bytes(self):
        for byte in range(256):
            sign = [byte]
            number = byte in range(48, 58)
            self.assertEqual(ask(("program", sign))[0][0], 1 if number else -1, byte)
            name = as_bytes("(fun x ") + sign + as_bytes(")")
            self.assertEqual(ask(("program", name))[0][0], 2 if number or byte == ord("x") else -1, byte)
            between = as_bytes("(add 1") + sign + as_bytes("2)")
            self.assertEqual(ask(("program", between))[0][0], 3 if byte == 32 else -1, byte)
            self.assertEqual(ask(("program", as_bytes("(add 1 2)") + sign)), [[-1]], byte)
            self.assertEqual(ask(("program", sign + as_bytes("(add 1 2)"))), [[-1]], byte)

    def test_high_bytes_are_not_taken_for_low_ones(self):
        plain = as_bytes("(fun x (add x 10))")
        for k in range(len(plain)):
            high = plain[:k] + [plain[k] + 128] + plain[k + 1:]
            self.assertEqual(ask(("program", high)), [[-1]], k)
        self.assertEqual(ask(("program", [255] * LARGEST)), [[-1]])
        self.assertEqual(ask(("program", [0] * LARGEST)), [[-1]])


class Binding(unittest.TestCase):
    def test_the_innermost_binder_counts(self):
        self.assertEqual(table_lines("(let x 1 (let x (fun y y) x))"),
                         ["n0 f3", "n1 num", "n2 f3", "n3 f3", "n5 f3", "x0 num", "x2 f3"])
        self.assertEqual(table_lines("((fun x ((fun x x) (pair x x))) 1)"), [
            "n0 p5", "n1 f1", "n2 p5", "n3 f3", "n4 p5", "n5 p5", "n6 num", "n7 num", "n8 num",
            "x1 num", "x3 p5", "a5 num", "b5 num"])
        self.assertEqual(table_lines("(let x 1 (let x (new 2) (let x (pair x x) x)))"), [
            "n0 p6", "n1 num", "n2 p6", "n3 r3", "n4 num", "n5 p6", "n6 p6", "n7 r3", "n8 r3", "n9 p6",
            "x0 num", "x2 r3", "x5 p6", "a6 r3", "b6 r3", "c3 num"])

    def test_a_lets_own_part_sees_the_binder_around(self):
        self.assertEqual(table_lines("(let x 1 (let x (new x) x))"),
                         ["n0 r3", "n1 num", "n2 r3", "n3 r3", "n4 num", "n5 r3", "x0 num", "x2 r3", "c3 num"])

    def test_behind_a_binder_the_one_around_counts_again(self):
        self.assertEqual(table_lines("(let x 1 (pair (let x (new 2) x) x))"), [
            "n0 p2", "n1 num", "n2 p2", "n3 r4", "n4 r4", "n5 num", "n6 r4", "n7 num",
            "x0 num", "x3 r4", "a2 r4", "b2 num", "c4 num"])
        self.assertEqual(arrows("(let f (fun a 1) (pair (let f (fun b 2) (f 3)) (f 4)))"), [(7, 5), (10, 1)])


if __name__ == "__main__":
    unittest.main()
