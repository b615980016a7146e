"""Promises 2 to 7 and 13: each kind of expression, what it needs, and the ways it makes."""

import unittest

from helper import arrows, ask_each, ask_of, table_lines


class Flows(unittest.TestCase):
    def assert_table(self, program, lines):
        with self.subTest(program=program):
            self.assertEqual(table_lines(program), lines)


class OwnNeeds(Flows):
    def test_number_and_input(self):
        self.assert_table("7", ["n0 num"])
        self.assert_table("in", ["n0 num"])

    def test_fun(self):
        self.assert_table("(fun x x)", ["n0 f0"])

    def test_a_body_counts_though_nothing_calls_it(self):
        self.assert_table("(fun x (pair in x))", ["n0 f0", "n1 p1", "n2 num", "a1 num"])

    def test_pair(self):
        self.assert_table("(pair (fst 1) (fst 2))", ["n0 p0", "n2 num", "n4 num"])

    def test_new(self):
        self.assert_table("(new (fst 1))", ["n0 r0", "n2 num"])

    def test_add_needs_a_number_whatever_its_parts_have(self):
        self.assert_table("(add (fun x x) (fst 1))", ["n0 num", "n1 f1", "n4 num"])
        self.assert_table("(add 1 (new 2))", ["n0 num", "n1 num", "n2 r2", "n3 num", "c2 num"])


class SteadyWays(Flows):
    def test_let(self):
        self.assert_table("(let x 1 (fun y x))", ["n0 f2", "n1 num", "n2 f2", "n3 num", "x0 num"])
        self.assert_table("(let x (fun y y) 2)", ["n0 num", "n1 f1", "n3 num", "x0 f1"])

    def test_if_takes_both_branches_and_not_its_first_part(self):
        self.assert_table("(if (fun x x) 1 (pair 2 3))", [
            "n0 num p4", "n1 f1", "n3 num", "n4 p4", "n5 num", "n6 num", "a4 num", "b4 num"])
        self.assert_table("(if 0 (new 1) (fun x x))", ["n0 r2 f4", "n1 num", "n2 r2", "n3 num", "n4 f4", "c2 num"])

    def test_pair_parts_are_kept_apart(self):
        self.assert_table("(pair 1 (fun x x))", ["n0 p0", "n1 num", "n2 f2", "a0 num", "b0 f2"])
        self.assert_table("(pair (new 1) 2)", ["n0 p0", "n1 r1", "n2 num", "n3 num", "a0 r1", "b0 num", "c1 num"])

    def test_new(self):
        self.assert_table("(new (pair 1 2))", ["n0 r0", "n1 p1", "n2 num", "n3 num", "a1 num", "b1 num", "c0 p1"])

    def test_set_gives_its_second_part(self):
        self.assert_table("(set 1 (fun x x))", ["n0 f2", "n1 num", "n2 f2"])


class Calls(Flows):
    def test_one_function(self):
        self.assert_table("((fun x x) 5)", ["n0 num", "n1 f1", "n2 num", "n3 num", "x1 num"])
        self.assert_table("((fun x 5) (fun y y))", ["n0 num", "n1 f1", "n2 num", "n3 f3", "x1 f3"])

    def test_several_functions(self):
        program = "((if in (fun x x) (fun y 3)) (fun z z))"
        self.assert_table(program, [
            "n0 num f7", "n1 f3 f5", "n2 num", "n3 f3", "n4 f7", "n5 f5", "n6 num", "n7 f7", "x3 f7", "x5 f7"])
        self.assertEqual(arrows(program), [(0, 3), (0, 5)])

    def test_only_functions_are_called(self):
        self.assert_table("(1 (fun x x))", ["n1 num", "n2 f2"])
        self.assert_table("((pair 1 2) 3)", ["n1 p1", "n2 num", "n3 num", "n4 num", "a1 num", "b1 num"])
        self.assert_table("((new 1) 3)", ["n1 r1", "n2 num", "n3 num", "c1 num"])

    def test_a_function_is_called_though_its_argument_has_nothing(self):
        program = "((fun x 1) (fst 2))"
        self.assert_table(program, ["n0 num", "n1 f1", "n2 num", "n4 num"])
        self.assertEqual(arrows(program), [(0, 1)])

    def test_what_is_given_to_one_call_comes_to_all(self):
        self.assert_table("(let f (fun x x) (pair (f 1) (f (new 2))))", [
            "n0 p3", "n1 f1", "n2 num r9", "n3 p3", "n4 num r9", "n5 f1", "n6 num", "n7 num r9", "n8 f1",
            "n9 r9", "n10 num", "x0 f1", "x1 num r9", "a3 num r9", "b3 num r9", "c9 num"])

    def test_a_call_of_itself(self):
        program = "((fun x (x x)) (fun x (x x)))"
        self.assert_table(program, ["n1 f1", "n3 f5", "n4 f5", "n5 f5", "n7 f5", "n8 f5", "x1 f5", "x5 f5"])
        self.assertEqual(arrows(program), [(0, 1), (2, 5), (6, 5)])

    def test_functions_that_come_by_calls(self):
        program = "(((fun f f) (fun x (pair x x))) 3)"
        self.assert_table(program, [
            "n0 p5", "n1 f4", "n2 f2", "n3 f4", "n4 f4", "n5 p5", "n6 num", "n7 num", "n8 num",
            "x2 f4", "x4 num", "a5 num", "b5 num"])
        self.assertEqual(arrows(program), [(0, 4), (1, 2)])


class Pairs(Flows):
    def test_fst_and_snd(self):
        rest = ["n1 p1", "n2 num", "n3 f3", "a1 num", "b1 f3"]
        self.assert_table("(fst (pair 1 (fun x x)))", ["n0 num"] + rest)
        self.assert_table("(snd (pair 1 (fun x x)))", ["n0 f3"] + rest)

    def test_several_pairs(self):
        rest = ["n1 p3 p6", "n2 num", "n3 p3", "n4 num", "n5 num", "n6 p6", "n7 r7", "n8 num", "n9 f9",
                "a3 num", "b3 num", "a6 r7", "b6 f9", "c7 num"]
        self.assert_table("(fst (if 0 (pair 1 2) (pair (new 3) (fun x x))))", ["n0 num r7"] + rest)
        self.assert_table("(snd (if 0 (pair 1 2) (pair (new 3) (fun x x))))", ["n0 num f9"] + rest)

    def test_only_pairs_have_parts(self):
        for word in ("fst", "snd"):
            self.assert_table(f"({word} 1)", ["n1 num"])
            self.assert_table(f"({word} (fun x 1))", ["n1 f1", "n2 num"])
            self.assert_table(f"({word} (new 1))", ["n1 r1", "n2 num", "c1 num"])


class References(Flows):
    def test_get(self):
        self.assert_table("(get (new (fun x x)))", ["n0 f2", "n1 r1", "n2 f2", "c1 f2"])

    def test_set_puts_its_second_part_inside(self):
        self.assert_table("(set (new 1) (fun x x))", ["n0 f3", "n1 r1", "n2 num", "n3 f3", "c1 num f3"])

    def test_set_and_get_elsewhere(self):
        self.assert_table("(let r (new 0) (let u (set r (pair 1 2)) (fst (get r))))", [
            "n0 num", "n1 r1", "n2 num", "n3 num", "n4 p6", "n5 r1", "n6 p6", "n7 num", "n8 num", "n9 num",
            "n10 num p6", "n11 r1", "x0 r1", "x3 p6", "a6 num", "b6 num", "c1 num p6"])

    def test_a_set_counts_before_a_get_too(self):
        self.assert_table("(let r (new 0) (pair (get r) (set r (fun x x))))", [
            "n0 p3", "n1 r1", "n2 num", "n3 p3", "n4 num f8", "n5 r1", "n6 f8", "n7 r1", "n8 f8",
            "x0 r1", "a3 num f8", "b3 f8", "c1 num f8"])

    def test_several_references(self):
        self.assert_table("(get (if in (new 1) (new (fun x x))))", [
            "n0 num f6", "n1 r3 r5", "n2 num", "n3 r3", "n4 num", "n5 r5", "n6 f6", "c3 num", "c5 f6"])
        self.assert_table("(set (if in (new 1) (new 2)) (fun x x))", [
            "n0 f7", "n1 r3 r5", "n2 num", "n3 r3", "n4 num", "n5 r5", "n6 num", "n7 f7", "c3 num f7", "c5 num f7"])

    def test_only_references_have_an_inside(self):
        self.assert_table("(get 1)", ["n1 num"])
        self.assert_table("(get (fun x 1))", ["n1 f1", "n2 num"])
        self.assert_table("(get (pair 1 2))", ["n1 p1", "n2 num", "n3 num", "a1 num", "b1 num"])
        self.assert_table("(set (pair 1 2) (fun x 3))",
                          ["n0 f4", "n1 p1", "n2 num", "n3 num", "n4 f4", "n5 num", "a1 num", "b1 num"])

    def test_a_reference_with_itself_inside(self):
        self.assert_table("(let r (new 0) (get (set r r)))", [
            "n0 num r1", "n1 r1", "n2 num", "n3 num r1", "n4 r1", "n5 r1", "n6 r1", "x0 r1", "c1 num r1"])


class Order(Flows):
    def test_sorts_rise_by_labels_whatever_they_are(self):
        program = "(if 0 (if 0 (new 1) (fun x x)) (if 0 (pair 1 2) 3))"
        self.assertEqual(ask_of(program, ("node", 0)), [[4, 0, 0, 3, 4, 1, 6, 2, 10]])
        turned = "(if 0 (if 0 (pair 1 2) (new 1)) (if 0 (fun x x) 3))"
        self.assertEqual(ask_of(turned, ("node", 0)), [[4, 0, 0, 2, 4, 3, 7, 1, 11]])

    def test_labels_of_two_digits_stand_behind_those_of_one(self):
        program = "(if 0 (if 0 (fun a 1) (fun b 2)) (if 0 (fun c 3) (fun d 4)))"
        self.assertEqual(ask_of(program, ("node", 0)), [[4, 1, 4, 1, 6, 1, 10, 1, 12]])

    def test_sets_of_nothing(self):
        self.assertEqual(ask_of("(fun x (fst x))", ("node", 1), ("node", 2), ("name", 0)), [[0], [0], [0]])
        self.assertEqual(ask_of("(pair (fst 1) 2)", ("parts", 0)), [[0, 1, 0, 0]])
        self.assertEqual(ask_of("(pair 1 (fst 2))", ("parts", 0)), [[1, 0, 0, 0]])
        self.assertEqual(ask_of("(new (fst 1))", ("inside", 0)), [[0]])


class ArrowsAndCallers(Flows):
    def test_no_calls(self):
        self.assertEqual(ask_of("(fun x x)", ("arrows",), ("callers", 0)), [[0], [0]])
        self.assertEqual(ask_of("(1 2)", ("arrows",)), [[0]])

    def test_calls_rise_and_functions_rise(self):
        program = "(let f (if 0 (fun x x) (fun y y)) (pair (f 1) (f (f 2))))"
        self.assertEqual(ask_of(program, ("arrows",)), [[6, 8, 3, 8, 5, 11, 3, 11, 5, 13, 3, 13, 5]])
        self.assertEqual(ask_of(program, ("callers", 3), ("callers", 5)), [[3, 8, 11, 13], [3, 8, 11, 13]])

    def test_an_outer_call_comes_before_an_inner_one(self):
        program = "((fun x x) ((fun y y) 1))"
        self.assertEqual(arrows(program), [(0, 1), (3, 4)])
        self.assertEqual(ask_of(program, ("callers", 1), ("callers", 4)), [[1, 0], [1, 3]])

    def test_an_argument_alone_is_no_call(self):
        self.assertEqual(ask_of("((fun x 1) (fun y 2))", ("callers", 1), ("callers", 3)), [[1, 0], [0]])

    def test_only_functions_come_to_a_call(self):
        program = "((if 0 (if 0 (pair 1 2) (new 3)) (if 0 4 (fun x x))) 5)"
        self.assertEqual(arrows(program), [(0, 13)])


class Kinds(Flows):
    PROGRAM = "(if (let a 1 (fst in)) ((fun b b) (new 2)) (add (pair 3 (set 4 5)) (get (snd 6))))"

    def test_which_nodes_each_call_is_for(self):
        self.assertEqual(list(ask_each(self.PROGRAM, "node")), list(range(19)))
        self.assertEqual(list(ask_each(self.PROGRAM, "name")), [1, 6])
        self.assertEqual(list(ask_each(self.PROGRAM, "parts")), [11])
        self.assertEqual(list(ask_each(self.PROGRAM, "inside")), [8])
        self.assertEqual(list(ask_each(self.PROGRAM, "callers")), [6])


class Size(Flows):
    def test_places_and_sorts(self):
        self.assertEqual(ask_of("(fun x x)", ("size",)), [[2, 3, 2, 1]])
        self.assertEqual(ask_of("(let x 1 x)", ("size",)), [[3, 4, 1, 4]])
        self.assertEqual(ask_of("(pair 1 2)", ("size",)), [[3, 5, 2, 5]])
        self.assertEqual(ask_of("(new 1)", ("size",)), [[2, 3, 2, 3]])
        self.assertEqual(ask_of("(add 1 2)", ("size",)), [[3, 3, 1, 3]])
        self.assertEqual(ask_of(Kinds.PROGRAM, ("size",)), [[19, 24, 4, 21]])


if __name__ == "__main__":
    unittest.main()
