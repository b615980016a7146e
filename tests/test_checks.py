"""Promises 8 and 9: a table's text, and checks of texts that are handed in."""

import unittest

from helper import as_bytes, ask, ask_of, table_lines, table_text, text_of

LARGEST = 4000
DIGITS = "(if (add 1 (add 2 (add 3 (add 4 5)))) (pair (new in) (fun x x)) 6)"
CALLED = "(add (add 1 (add 2 3)) ((fun x (let y (pair x (new x)) (get (snd y)))) (fun z 4)))"
SEVERAL = "((if in (fun x x) (fun y 3)) (fun z z))"
PROGRAMS = [
    "0", "in", "(fun x x)", "((fun x x) 5)", "(let x 1 x)", "(if in (new 1) (fun x x))", "(add (fst 1) 2)",
    "(fst (if 0 (pair 1 2) (pair (new 3) (fun x x))))", "(snd (if 0 (pair 1 2) (pair (new 3) (fun x x))))",
    "(get (if in (new 1) (new (fun x x))))", "(set (if in (new 1) (new 2)) (fun x x))",
    "(let r (new 0) (get (set r r)))", "((fun x (x x)) (fun x (x x)))", SEVERAL, DIGITS, CALLED,
    "(let id (fun x x) (pair (id 1) (id (fun y y))))",
]


def facts_of(lines):
    return [(line.split(" ")[0], sort) for line in lines for sort in line.split(" ")[1:]]


def lines_of(facts):
    """Lines of facts that stand in order."""
    lines = {}
    for place, sort in facts:
        lines[place] = lines.get(place, place) + f" {sort}"
    return list(lines.values())


def numbers_of(place, sort):
    made = ["num", "f", "p", "r"].index(sort if sort == "num" else sort[0])
    return ["nxabc".index(place[0]), int(place[1:]), made, int(sort[1:]) if made else 0]


class Table(unittest.TestCase):
    def test_texts(self):
        self.assertEqual(ask(("table",)), [[7] + as_bytes("n0 num\n")])
        self.assertEqual(table_text("(fun x x)"), "n0 f0\n")
        self.assertEqual(table_text("(let x (fun y y) (x 1))"),
                         "n0 num\nn1 f1\nn2 num\nn3 num\nn4 f1\nn5 num\nx0 f1\nx1 num\n")
        self.assertEqual(table_text("(pair 1 (fun x x))"), "n0 p0\nn1 num\nn2 f2\na0 num\nb0 f2\n")
        self.assertEqual(table_text("(set (new 1) (fun x x))"), "n0 f3\nn1 r1\nn2 num\nn3 f3\nc1 num f3\n")

    def test_first_and_second_parts_stand_pair_by_pair(self):
        self.assertEqual(table_text("(pair (pair 1 2) (new (new 3)))"), text_of([
            "n0 p0", "n1 p1", "n2 num", "n3 num", "n4 r4", "n5 r5", "n6 num", "a0 p1", "b0 r4", "a1 num", "b1 num",
            "c4 r5", "c5 num"]))

    def test_sorts_rise_by_their_labels(self):
        self.assertEqual(table_text("(if 0 (if 0 (new 1) (fun x x)) (if 0 (pair 1 2) 3))").split("\n")[0],
                         "n0 num r4 f6 p10")

    def test_labels_of_two_digits(self):
        self.assertEqual(table_text(DIGITS), text_of(
            ["n0 num p10"] + [f"n{label} num" for label in range(1, 10)] +
            ["n10 p10", "n11 r11", "n12 num", "n13 f13", "n15 num", "a10 r11", "b10 f13", "c11 num"]))
        self.assertEqual(table_text(CALLED), text_of(
            [f"n{label} num" for label in range(6)] +
            ["n6 f16", "n7 f7", "n8 f16", "n9 p9", "n10 f16", "n11 r11", "n12 f16", "n13 f16", "n14 r11", "n15 p9",
             "n16 f16", "n17 num", "x7 f16", "x8 p9", "a9 f16", "b9 r11", "c11 f16"]))

    def test_the_text_tells_what_the_other_calls_tell(self):
        for program in PROGRAMS:
            with self.subTest(program=program):
                self.assertEqual(table_text(program), text_of(table_lines(program)))


class Check(unittest.TestCase):
    def assert_check(self, program, lines, answer):
        with self.subTest(program=program, lines=lines):
            self.assertEqual(ask_of(program, ("check", text_of(lines))), [answer])

    def test_the_own_text(self):
        for program in PROGRAMS:
            lines = table_lines(program)
            self.assert_check(program, lines, [1, len(facts_of(lines))])

    def test_each_fact_of_the_least_table_is_needed(self):
        for program in PROGRAMS:
            facts = facts_of(table_lines(program))
            for k, (place, sort) in enumerate(facts):
                self.assert_check(program, lines_of(facts[:k] + facts[k + 1:]), [0] + numbers_of(place, sort))

    def test_the_empty_text(self):
        self.assertEqual(ask(("check", "")), [[0, 0, 0, 0, 0]])
        self.assert_check("(let x (fun y y) 2)", [], [0, 0, 1, 1, 1])
        self.assert_check("(fst (get (new 1)))", [], [0, 0, 2, 3, 2])

    def test_closed_tables_that_are_not_the_least(self):
        self.assert_check("(fun x x)", ["n0 f0", "n1 num", "x0 num"], [1, 3])
        self.assert_check("(fun x x)", ["n0 f0", "n1 f0"], [1, 2])
        self.assert_check("(add 1 2)", ["n0 num", "n1 num", "n2 num"], [1, 3])
        self.assert_check("(1 (fun x x))", ["n0 f2", "n1 num f2", "n2 f2", "n3 f2", "x2 f2"], [1, 6])
        self.assert_check("(new (get 1))", ["n0 r0", "n1 num r0", "n2 num", "c0 num r0"], [1, 6])

    def test_everything_everywhere_is_closed(self):
        places = [f"n{label}" for label in range(9)] + ["x3", "x5", "x7"]
        self.assert_check(SEVERAL, [f"{place} num f3 f5 f7" for place in places], [1, 48])

    def test_needed_by_the_node_itself(self):
        self.assert_check("(add 1 2)", ["n1 num", "n2 num"], [0, 0, 0, 0, 0])
        self.assert_check("(fst in)", ["n0 num"], [0, 0, 1, 0, 0])
        self.assert_check("(fst 7)", ["n0 num"], [0, 0, 1, 0, 0])
        self.assert_check("(fun x x)", ["n0 num"], [0, 0, 0, 1, 0])
        self.assert_check("(fst (pair 1 2))", ["n2 num", "n3 num"], [0, 0, 1, 2, 1])
        self.assert_check("(fst (new 1))", ["n2 num"], [0, 0, 1, 3, 1])

    def test_own_needs_come_ahead_of_ways(self):
        self.assert_check("(let x 1 x)", ["n2 num"], [0, 0, 1, 0, 0])
        self.assert_check("(let x 1 (new x))", ["n1 num"], [0, 0, 2, 3, 2])
        self.assert_check("(if 1 2 3)", ["n1 num", "n2 num"], [0, 0, 3, 0, 0])

    def test_own_needs_stand_node_by_node(self):
        self.assert_check("(pair (fun x x) (new 1))", ["n3 r3"], [0, 0, 0, 2, 0])
        self.assert_check("(pair (fun x x) (new 1))", ["n0 p0"], [0, 0, 1, 1, 1])
        self.assert_check("(pair (fun x x) (new 1))", ["n0 p0", "n1 f1"], [0, 0, 3, 3, 3])
        self.assert_check("(pair (fun x x) (new 1))", ["n0 p0", "n1 f1", "n3 r3"], [0, 0, 4, 0, 0])

    def test_ways_of_let_and_name(self):
        program = "(let x 1 x)"
        self.assert_check(program, ["n1 num", "n2 num"], [0, 1, 0, 0, 0])
        self.assert_check(program, ["n1 num", "n2 num", "x0 num"], [0, 0, 0, 0, 0])
        self.assert_check(program, ["n1 num", "x0 num"], [0, 0, 2, 0, 0])

    def test_ways_of_if(self):
        program = "(if 0 (fun x 1) (new 2))"
        base = ["n1 num", "n2 f2", "n3 num", "n4 r4", "n5 num"]
        self.assert_check(program, base, [0, 0, 0, 1, 2])
        self.assert_check(program, ["n0 f2"] + base, [0, 0, 0, 3, 4])
        self.assert_check(program, ["n0 f2 r4"] + base, [0, 4, 4, 0, 0])
        self.assert_check(program, ["n0 f2 r4"] + base + ["c4 num"], [1, 8])

    def test_ways_of_pair(self):
        program = "(pair 1 (fun x x))"
        base = ["n0 p0", "n1 num", "n2 f2"]
        self.assert_check(program, base, [0, 2, 0, 0, 0])
        self.assert_check(program, base + ["b0 f2"], [0, 2, 0, 0, 0])
        self.assert_check(program, base + ["a0 num"], [0, 3, 0, 1, 2])

    def test_ways_of_a_call(self):
        program = SEVERAL
        base = ["n1 f3 f5", "n2 num", "n3 f3", "n4 f7", "n5 f5", "n6 num", "n7 f7"]
        self.assert_check(program, base, [0, 1, 3, 1, 7])
        self.assert_check(program, base + ["x3 f7"], [0, 0, 0, 1, 7])
        self.assert_check(program, ["n0 f7"] + base + ["x3 f7"], [0, 1, 5, 1, 7])
        self.assert_check(program, ["n0 f7"] + base + ["x3 f7", "x5 f7"], [0, 0, 0, 0, 0])
        self.assert_check(program, ["n0 num f7"] + base + ["x3 f7", "x5 f7"], [1, 12])

    def test_ways_of_set(self):
        program = "(set (if in (new 1) (new 2)) (fun x x))"
        base = ["n1 r3 r5", "n2 num", "n3 r3", "n4 num", "n5 r5", "n6 num", "n7 f7"]
        self.assert_check(program, base, [0, 0, 0, 1, 7])
        self.assert_check(program, ["n0 f7"] + base, [0, 4, 3, 1, 7])
        self.assert_check(program, ["n0 f7"] + base + ["c3 f7"], [0, 4, 5, 1, 7])
        self.assert_check(program, ["n0 f7"] + base + ["c3 f7", "c5 f7"], [0, 4, 3, 0, 0])

    def test_ways_of_fst_snd_and_get(self):
        rest = ["n1 p3 p6", "n2 num", "n3 p3", "n4 num", "n5 num", "n6 p6", "n7 r7", "n8 num", "n9 f9",
                "a3 num", "b3 num", "a6 r7", "b6 f9", "c7 num"]
        program = "(fst (if 0 (pair 1 2) (pair (new 3) (fun x x))))"
        self.assert_check(program, rest, [0, 0, 0, 0, 0])
        self.assert_check(program, ["n0 num"] + rest, [0, 0, 0, 3, 7])
        self.assert_check(program, ["n0 num f9"] + rest, [0, 0, 0, 3, 7])
        program = "(snd (if 0 (pair 1 2) (pair (new 3) (fun x x))))"
        self.assert_check(program, rest, [0, 0, 0, 0, 0])
        self.assert_check(program, ["n0 num"] + rest, [0, 0, 0, 1, 9])
        program = "(get (if in (new 1) (new (fun x x))))"
        rest = ["n1 r3 r5", "n2 num", "n3 r3", "n4 num", "n5 r5", "n6 f6", "c3 num", "c5 f6"]
        self.assert_check(program, rest, [0, 0, 0, 0, 0])
        self.assert_check(program, ["n0 num"] + rest, [0, 0, 0, 1, 6])

    def test_ways_that_hang_on_what_is_handed_in(self):
        program = "(1 (fun x x))"
        self.assert_check(program, ["n1 num f2", "n2 f2"], [0, 1, 2, 1, 2])
        self.assert_check(program, ["n1 num f2", "n2 f2", "x2 f2"], [0, 0, 3, 1, 2])
        self.assert_check(program, ["n1 num f2", "n2 f2", "n3 f2", "x2 f2"], [0, 0, 0, 1, 2])
        self.assert_check("(pair 2 (fst 1))", ["n0 p0", "n1 num", "n3 num p0", "a0 num"], [0, 0, 2, 0, 0])
        self.assert_check("(pair (snd 1) 2)", ["n0 p0", "n2 num p0", "n3 num", "b0 num"], [0, 0, 1, 0, 0])
        self.assert_check("(new (get 1))", ["n0 r0", "n2 num r0", "c0 num"], [0, 0, 1, 0, 0])
        self.assert_check("(set 1 (new 2))", ["n0 r2", "n1 num r2", "n2 r2", "n3 num", "c2 num"], [0, 4, 2, 3, 2])

    def test_no_way_without_what_it_hangs_on(self):
        self.assert_check("((fun x 3) 5)", ["n2 num", "n3 num"], [0, 0, 1, 1, 1])
        self.assert_check("(let f (fun x 3) (f 5))", ["n1 f1", "n2 num", "n5 num"], [0, 1, 0, 1, 1])
        self.assert_check("(let f (fun x 3) (f 5))", ["n1 f1", "n2 num", "n5 num", "x0 f1"], [0, 0, 4, 1, 1])

    def test_of_several_ways_the_first_node(self):
        program = "(pair (let x 1 x) (let y 2 y))"
        base = ["n0 p0", "n2 num", "n5 num"]
        self.assert_check(program, base, [0, 1, 1, 0, 0])
        self.assert_check(program, base + ["x1 num"], [0, 0, 3, 0, 0])
        self.assert_check(program, ["n0 p0", "n2 num", "n3 num", "n5 num", "x1 num"], [0, 0, 1, 0, 0])
        self.assert_check(program, ["n0 p0", "n1 num", "n2 num", "n3 num", "n5 num", "x1 num"], [0, 2, 0, 0, 0])

    def test_sort_by_sort(self):
        program = "(let x (if 0 1 (if 2 (new 3) (fun y y))) 4)"
        full = facts_of(table_lines(program))
        for sorts, lacking in (("", [0, 0]), ("num", [3, 6]), ("num r6", [1, 8]), ("num f8", [3, 6])):
            kept = [("x0", sort) for sort in sorts.split()]
            facts = [fact for fact in full if fact[0] != "x0"]
            at = full.index(("x0", "num"))
            self.assert_check(program, lines_of(facts[:at] + kept + facts[at:]), [0, 1, 0] + lacking)


class NotTables(unittest.TestCase):
    def assert_refused(self, program, texts):
        for text in texts:
            with self.subTest(program=program, text=text if len(text) < 99 else len(text)):
                self.assertLessEqual(len(text), LARGEST)
                self.assertEqual(ask_of(program, ("check", text)), [[-1]])

    def test_lines(self):
        self.assert_refused("(let x 1 x)", [
            "n0 num\nn0 num\n", "n1 num\nn0 num\n", "x0 num\nn0 num\n", "n0 num\nn1 num\nx0 num\nn2 num\n",
            "n0 num\nn1 num\nn0 num\n", "n0 num\nn1 num\nn1 num\nn2 num\n"])
        self.assert_refused("(pair 1 (new 2))", [
            "b0 num\na0 num\n", "c2 num\na0 num\n", "a0 num\na0 p0\n", "c2 num\nc2 num\n", "b0 num\nn0 num\n"])
        self.assert_refused("(pair (pair 1 2) 3)", ["a0 num\na1 num\nb0 num\n", "a1 num\nb0 num\n"])
        self.assert_refused(DIGITS, ["n10 num\nn2 num\n", "n11 num\nn10 num\n", "n1 num\nn10 num\nn2 num\n"])

    def test_sorts(self):
        program = "(if 0 (if 0 (new 1) (fun x x)) (if 0 (pair 1 2) 3))"
        self.assertEqual(ask_of(program, ("check", "n0 num r4 f6 p10\n")), [[0, 0, 1, 0, 0]])
        self.assert_refused(program, [
            "n0 num num\n", "n0 r4 num\n", "n0 f6 r4\n", "n0 p10 f6\n", "n0 f6 f6\n", "n0 num f6 r4 p10\n",
            "n0 num r4 f6 p10 p10\n", "n0 num p10 r4\n"])

    def test_places_that_the_program_has_not(self):
        self.assert_refused("(let x 1 x)", ["n3 num\n", "n30 num\n", "x1 num\n", "x2 num\n", "x3 num\n", "a0 num\n",
                                            "b0 num\n", "c0 num\n", "d0 num\n", "y0 num\n", "0 num\n", "00 num\n"])
        self.assert_refused("(pair 1 (new 2))", [
            "a1 num\n", "b2 num\n", "c0 num\n", "c1 num\n", "x0 num\n", "n4 num\n"])
        self.assert_refused("(new 1)", [
            f"n{'9' * 3900} num\n", f"n{'1' * 18} num\n", "n-1 num\n", "n num\n", "n+0 num\n"])

    def test_sorts_that_the_program_has_not(self):
        self.assert_refused("(pair (fun x x) (new 2))", [
            "n0 f0\n", "n0 p1\n", "n0 r1\n", "n0 f2\n", "n0 r2\n", "n0 f3\n", "n0 p3\n", "n0 f5\n", "n0 r\n", "n0 f\n",
            "n0 n\n", "n0 nu\n", "n0 numm\n", "n0 num0\n", "n0 0\n", "n0 n0\n", "n0 x1\n", "n0 c3\n",
            f"n0 f{'9' * 3900}\n", "n0 f-1\n", "n0 f+1\n", "n0 num1\n", "n0 1\n"])

    def test_a_place_without_sorts(self):
        self.assert_refused("0", ["n0\n", "n0 \n", "n0", "n", "\n", " \n", "num\n", " num\n"])
        self.assert_refused("(let x 1 x)", ["n0 num\nn1\nn2 num\n", "n0 num\nx0\n", "n0\nn1 num\n"])

    def test_needless_blanks(self):
        self.assert_refused("(add 1 2)", [
            " n0 num\n", "n0  num\n", "n0 num \n", "n0 num\n ", "n0 num\n n1 num\n", "n 0 num\n", "n0\tnum\n",
            "n0 nu m\n", "n0 num\n\r", "n0 num\r\n", "n0 num n1 num\n", "n0num\n", "n0,num\n"])

    def test_needless_zeros(self):
        self.assert_refused("(fun x x)", ["n00 num\n", "n01 num\n", "x00 num\n", "n0 f00\n", "n0 f0\nn01 num\n"])
        self.assert_refused(DIGITS, ["n010 num\n", "n0 p010\n", "n0 r011\n", "a010 num\n", "c0011 num\n"])

    def test_ends_of_lines(self):
        self.assert_refused("(add 1 2)", [
            "n0 num", "n0 num\nn1 num", "\nn0 num\n", "n0 num\n\n", "n0 num\n\nn1 num\n", "\n", "\n\n",
            "n0 num\nn1 num\nn2 num", "n0 num\nn1 num\nn2 num\n\n", "n0 num\x0b", "n0 num\x0c", "n0 num\x00"])

    def test_large_letters(self):
        self.assert_refused("(fun x x)", ["N0 num\n", "n0 NUM\n", "n0 F0\n", "X0 num\n", "n0 Num\n"])

    def test_each_byte_changed(self):
        program = "(pair (fun x x) (new 2))"
        whole = as_bytes(table_text(program))
        for k in range(len(whole)):
            for byte in (0, whole[k] + 128, 255, 138, 160, 13, 9, 33, 65):
                changed = whole[:k] + [byte] + whole[k + 1:]
                self.assertEqual(ask_of(program, ("check", changed)), [[-1]], (k, byte))

    def test_each_byte_beside(self):
        whole = as_bytes("n0 num\n")
        for byte in range(256):
            self.assertEqual(ask(("check", [byte] + whole), ("check", whole + [byte])), [[-1], [-1]], byte)

    def test_four_thousand_bytes(self):
        for text in ("n" * LARGEST, "\n" * LARGEST, " " * LARGEST, "0" * LARGEST, "n0 num\n" * 571,
                     "n0" + " num" * 999 + "\n", "n0 " * 1333, "n0\n" * 1333):
            self.assert_refused("(add 1 2)", [text])
        self.assert_refused("(add 1 2)", [[255] * LARGEST, [0] * LARGEST, [138] * LARGEST])

    def test_another_programs_text(self):
        old = table_text("(fun x x)")
        answered = ask(("program", "(fun x x)"), ("check", old), ("program", "(new 1)"), ("check", old), ("size",))
        self.assertEqual(answered, [[2, 1], [1, 1], [2, 3], [-1], [2, 3, 2, 3]])


class Leaves(unittest.TestCase):
    def test_a_check_changes_nothing(self):
        program = "(1 (fun x x))"
        own = table_text(program)
        looks = [("table",), ("size",), ("node", 1), ("arrows",), ("check", own), ("spare", 0)]
        seen = ask_of(program, *looks)
        for text in ("n0 f2\nn1 num f2\nn2 f2\nn3 f2\nx2 f2\n", "n1 num f2\n", "", "n9 num\n"):
            self.assertEqual(ask_of(program, ("check", text), *looks)[1:], seen)


if __name__ == "__main__":
    unittest.main()
