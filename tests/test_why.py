"""Promise 10: the least row of ways for a fact, and which of several is told."""

import unittest

from helper import ask, ask_of, why_row

HUGE = 10 ** 18


class Rows(unittest.TestCase):
    def assert_row(self, program, handed, row):
        with self.subTest(program=program, handed=handed):
            self.assertEqual(why_row(program, *handed), row)


class EmptyRows(Rows):
    def test_needed_by_the_node_itself(self):
        self.assertEqual(ask(("why", 0, 0, 0)), [[0]])
        for program, handed in (("7", (0, 0, 0)), ("in", (0, 0, 0)), ("(add 1 2)", (0, 0, 0)), ("(fun x x)", (0, 1, 0)),
                                ("(pair 1 2)", (0, 2, 0)), ("(new 1)", (0, 3, 0)), ("(fst (new 1))", (1, 3, 1)),
                                ("(fst (pair 1 2))", (1, 2, 1)), ("(fst (fun x x))", (1, 1, 1))):
            self.assert_row(program, handed, [])

    def test_a_number_whatever_j_is(self):
        for j in (0, 1, 2, 29, 30, 99, 10 ** 9, HUGE):
            self.assert_row("(let x 1 x)", (1, 0, j), [])
            self.assert_row("(let x 1 x)", (2, 0, j), ["n1 by 0", "x0 by 2"])

    def test_the_empty_row_is_least_though_others_end_there(self):
        self.assert_row("(let f (fun x (x x)) (f f))", (1, 1, 1), [])
        self.assert_row("(let r (new (fun x 1)) (set r r))", (1, 3, 1), [])


class EachWay(Rows):
    def test_name_and_let(self):
        self.assert_row("(let x 1 (fun y x))", (3, 0, 0), ["n1 by 0", "x0 by 3"])
        self.assert_row("(let x 1 (fun y x))", (0, 1, 2), ["n2 by 0"])

    def test_if(self):
        self.assert_row("(if in 1 (fun x x))", (0, 0, 0), ["n2 by 0"])
        self.assert_row("(if in 1 (fun x x))", (0, 1, 3), ["n3 by 0"])

    def test_pair_fst_and_snd(self):
        self.assert_row("(fst (pair 1 (fun x x)))", (0, 0, 0), ["n2 by 1", "a1 by 0"])
        self.assert_row("(snd (pair 1 (fun x x)))", (0, 1, 3), ["n3 by 1", "b1 by 0"])

    def test_new_and_get(self):
        self.assert_row("(get (new (pair 1 2)))", (0, 2, 2), ["n2 by 1", "c1 by 0"])

    def test_set(self):
        self.assert_row("(set 1 (fun x x))", (0, 1, 2), ["n2 by 0"])
        program = "(let r (new 0) (let u (set r (fun x x)) (get r)))"
        self.assert_row(program, (8, 1, 6), ["n6 by 4", "c1 by 8"])
        self.assert_row(program, (0, 1, 6), ["n6 by 4", "c1 by 8", "n8 by 3", "n3 by 0"])
        self.assert_row(program, (8, 0, 0), ["n2 by 1", "c1 by 8"])
        self.assert_row(program, (9, 3, 1), ["n1 by 0", "x0 by 9"])

    def test_call(self):
        self.assert_row("((fun x x) 5)", (0, 0, 0), ["n3 by 0", "x1 by 2", "n2 by 0"])
        self.assert_row("((fun x (new x)) 5)", (0, 3, 2), ["n2 by 0"])
        self.assert_row("((fun x (new x)) 5)", (3, 0, 0), ["n4 by 0", "x1 by 3"])


class LongRows(Rows):
    def test_as_it_is_answered(self):
        self.assertEqual(ask_of("(get (new (pair 1 2)))", ("why", 0, 2, 2)), [[2, 0, 2, 1, 4, 1, 0]])

    def test_many_ways(self):
        self.assert_row("(let a 1 (let b a (let c b (let d c (new d)))))", (9, 0, 0), [
            "n1 by 0", "x0 by 3", "n3 by 2", "x2 by 5", "n5 by 4", "x4 by 7", "n7 by 6", "x6 by 9"])
        self.assert_row("(let a (fun z z) (let b (a a) (let c (b b) c)))", (0, 1, 1), [
            "n1 by 0", "x0 by 6", "n6 by 4", "x1 by 2", "n2 by 8", "n8 by 7", "x7 by 11", "n11 by 7", "n7 by 3",
            "n3 by 0"])

    def test_through_pairs_and_references(self):
        self.assert_row("(snd (get (new (pair 1 (pair 2 (fun x x))))))", (0, 2, 5), ["n5 by 3", "b3 by 0"])
        self.assert_row("(snd (snd (get (new (pair 1 (pair 2 (fun x x)))))))", (0, 1, 8), ["n8 by 6", "b6 by 0"])
        self.assert_row("(get (fst (pair (new (fun x x)) 2)))", (0, 1, 4), ["n4 by 3", "c3 by 0"])

    def test_a_short_row_though_a_longer_one_begins_earlier(self):
        self.assert_row("(let x 1 (let y x (if in y 2)))", (4, 0, 0), ["n7 by 4"])
        self.assert_row("(let x 1 (let y x (if in y 2)))", (0, 0, 0), ["n7 by 4", "n4 by 2", "n2 by 0"])


class SeveralRows(Rows):
    def test_the_place_where_it_begins_first_in_order(self):
        self.assert_row("(if in 1 2)", (0, 0, 0), ["n2 by 0"])
        self.assert_row("((fun x x) (if in 1 2))", (2, 0, 0), ["n5 by 3", "n3 by 0", "x1 by 2"])
        self.assert_row("(let f (fun x x) (pair (f 1) (f 2)))", (7, 0, 0), ["n6 by 4", "x1 by 2", "n2 by 7"])

    def test_the_earlier_beginning_counts_and_not_the_last_way(self):
        program = "(let x 1 (if in (let a (fst 4) (let b (fst 5) 2)) x))"
        self.assert_row(program, (2, 0, 0), ["n1 by 0", "x0 by 11", "n11 by 2"])

    def test_the_first_of_two_ways_that_begin_at_one_place(self):
        self.assert_row("(let x (fun y y) (if in x x))", (3, 1, 1), ["n1 by 0", "x0 by 5", "n5 by 3"])

    def test_by_the_functions_order(self):
        self.assert_row("((if in (fun x x) (fun y y)) 3)", (0, 0, 0), ["n7 by 0", "x3 by 4", "n4 by 0"])
        self.assert_row("((if in (fun x 1) (fun y y)) (new 3))", (0, 3, 7), ["n7 by 0", "x5 by 6", "n6 by 0"])

    def test_by_the_pairs_and_references_order(self):
        program = "(let x (fun y y) (fst (if in (pair x 1) (pair x 2))))"
        self.assert_row(program, (3, 1, 1), ["n1 by 0", "x0 by 7", "n7 by 6", "a6 by 3"])
        program = "(let x (fun y y) (get (if in (new x) (new x))))"
        self.assert_row(program, (3, 1, 1), ["n1 by 0", "x0 by 7", "n7 by 6", "c6 by 3"])
        program = "(get (let r (if in (new 0) (new 1)) (let u (set r (fun x x)) r)))"
        self.assert_row(program, (0, 1, 11), ["n11 by 9", "c4 by 0"])

    def test_a_set_goes_to_itself_ahead_of_the_inside(self):
        program = "(let r (new (fst 1)) (if in (get r) (let z (fst 0) (set r 5))))"
        self.assert_row(program, (4, 0, 0), ["n13 by 11", "n11 by 8", "n8 by 4"])

    def test_of_ways_by_several_nodes_the_first_node(self):
        self.assert_row("(let f (fun x (new 1)) (if in (f 1) (f 2)))", (4, 3, 2), ["n2 by 6", "n6 by 4"])
        self.assert_row("(let p (pair (fun x x) 1) (if in (fst p) (fst p)))", (5, 1, 2), [
            "n2 by 1", "a1 by 7", "n7 by 5"])
        self.assert_row("(let p (pair 1 (fun x x)) (if in (snd p) (snd p)))", (5, 1, 3), [
            "n3 by 1", "b1 by 7", "n7 by 5"])
        self.assert_row("(let r (new (fun x x)) (if in (get r) (get r)))", (4, 1, 2), ["n2 by 1", "c1 by 6", "n6 by 4"])

    def test_a_call_itself_around(self):
        program = "((fun f (f (f f))) (fun x x))"
        self.assert_row(program, (0, 1, 7), ["n7 by 0", "x1 by 6", "n6 by 4", "x7 by 8", "n8 by 2", "n2 by 0"])


class Refusals(Rows):
    PROGRAM = "(let x (pair 1 (new (fun y y))) x)"

    def assert_refused(self, handed, refusal):
        with self.subTest(handed=handed):
            self.assertEqual(ask_of(self.PROGRAM, ("why",) + handed), [[refusal]])

    def test_no_such_node(self):
        for label in (-1, 7, 30, HUGE, -HUGE):
            for kind, maker in ((0, 0), (1, 4), (2, 1), (-1, 0), (4, 0), (0, -1), (1, HUGE), (HUGE, -HUGE)):
                self.assert_refused((label, kind, maker), -3)

    def test_no_such_kind_or_label(self):
        for kind in (-1, 4, 5, HUGE, -HUGE):
            for maker in (0, 1, -1, HUGE, -HUGE):
                self.assert_refused((2, kind, maker), -4)
        for kind in (0, 1, 2, 3):
            for maker in (-1, -2, -HUGE):
                self.assert_refused((2, kind, maker), -4)

    def test_a_number_needs_j_from_0_on(self):
        self.assertEqual(ask_of(self.PROGRAM, ("why", 2, 0, -1), ("why", 2, 0, 0)), [[-4], [0]])

    def test_what_is_not_at_the_node(self):
        self.assert_refused((0, 0, 0), -4)
        self.assert_refused((0, 1, 4), -4)
        self.assert_refused((0, 2, 0), -4)
        self.assert_refused((0, 2, 2), -4)
        self.assert_refused((0, 1, 1), -4)
        self.assert_refused((0, 3, 1), -4)
        self.assert_refused((5, 1, 4), -4)
        self.assert_refused((5, 0, 0), -4)
        for kind in (1, 2, 3):
            for maker in (0, 29, 30, HUGE):
                self.assert_refused((0, kind, maker), -4)
        self.assertEqual(ask_of(self.PROGRAM, ("why", 0, 2, 1)), [[3, 0, 1, 0, 1, 0, 6, 0, 6, 0]])

    def test_a_refusal_leaves_everything(self):
        looks = [("table",), ("size",), ("why", 0, 2, 1), ("spare", 0)]
        seen = ask_of(self.PROGRAM, *looks)
        for handed in ((9, 0, 0), (0, 4, 0), (0, 0, -1), (0, 0, 0)):
            self.assertEqual(ask_of(self.PROGRAM, ("why",) + handed, *looks)[1:], seen)


if __name__ == "__main__":
    unittest.main()
