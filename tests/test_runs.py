"""Promises 11 and 12: which facts and arrows a run has, and what of the table it leaves over."""

import inspect
import sys
import unittest

from helper import ask, ask_of, run_facts, spare_facts

HUGE = 10 ** 18
# Runs 11 steps, and 10 more each time around: 28 times from 72 on, until the sum is 0.
LOOP = "(let f (fun s (fun n (if n 7 ((s s) (add n 1))))) ((f f) 72))"
DEEP = "((fun x (fst (fst (fst (fst (fst (x x))))))) (fun x (fst (fst (fst (fst (fst (x x))))))))"


class Runs(unittest.TestCase):
    def assert_facts(self, program, facts, number=0):
        with self.subTest(program=program, number=number):
            self.assertEqual(run_facts(program, number), facts)

    def assert_gives(self, program, sort, number=0):
        """The run ends, with a value of this sort."""
        with self.subTest(program=program, number=number):
            given = [fact for fact in run_facts(program, number) if fact.startswith("n0 ")]
            self.assertEqual(given, [f"n0 {sort}"])

    def assert_zero(self, condition, around="{}", number=0):
        """The condition gives 0."""
        program = around.format(f"(if {condition} (fun zero 1) (new 2))")
        given = [fact[3:4] for fact in run_facts(program, number) if fact.startswith("n0 ")]
        self.assertEqual(given, ["f"], program)

    def assert_not_zero(self, condition, around="{}", number=0):
        program = around.format(f"(if {condition} (fun zero 1) (new 2))")
        given = [fact[3:4] for fact in run_facts(program, number) if fact.startswith("n0 ")]
        self.assertEqual(given, ["r"], program)

    def assert_counts(self, program, facts, arrows, number=0):
        with self.subTest(program=program, number=number):
            self.assertEqual(ask_of(program, ("run", number)), [[facts, facts, arrows, arrows]])


class Refusals(Runs):
    def test_inputs(self):
        for call in ("run", "spare"):
            for number in (-1, 10, 11, 99, -2, HUGE, -HUGE):
                with self.subTest(call=call, number=number):
                    self.assertEqual(ask((call, number)), [[-2]])
        for number in range(10):
            self.assertEqual(ask(("run", number), ("spare", number)), [[1, 1, 0, 0], [0]])

    def test_a_refusal_leaves_everything(self):
        looks = [("table",), ("size",), ("run", 3), ("spare", 3)]
        seen = ask_of(LOOP, *looks)
        for call in (("run", 10), ("spare", -1), ("run", HUGE), ("spare", -HUGE)):
            self.assertEqual(ask_of(LOOP, call, *looks), [[-2]] + seen)


class EachNode(Runs):
    def test_plain_nodes(self):
        self.assert_facts("7", ["n0 num"])
        self.assert_facts("in", ["n0 num"])
        self.assert_facts("(fun x (add x 1))", ["n0 f0"])
        self.assert_facts("(let x 1 x)", ["n0 num", "n1 num", "n2 num"])
        self.assert_facts("(pair 1 (fun x 2))", ["n0 p0", "n1 num", "n2 f2"])
        self.assert_facts("(new (pair 1 2))", ["n0 r0", "n1 p1", "n2 num", "n3 num"])

    def test_numbers(self):
        self.assert_zero("0")
        for number in (1, 9, 10, 50, 99):
            self.assert_not_zero(str(number))

    def test_the_input(self):
        self.assert_zero("in", number=0)
        for number in range(1, 10):
            self.assert_not_zero("in", number=number)
        for number in range(10):
            for guess in range(10):
                (self.assert_zero if guess == number else self.assert_not_zero)(f"(add in {(100 - guess) % 100})",
                                                                               number=number)

    def test_add(self):
        for sum_of in ("0 0", "1 99", "99 1", "50 50", "37 63"):
            self.assert_zero(f"(add {sum_of})")
        for sum_of in ("0 1", "1 0", "49 50", "51 50", "99 99", "10 0"):
            self.assert_not_zero(f"(add {sum_of})")
        self.assert_zero("(add (add 99 99) 2)")

    def test_if_runs_one_branch(self):
        program = "(if in (fun x 1) (pair 2 3))"
        self.assert_facts(program, ["n0 f2", "n1 num", "n2 f2"], 0)
        self.assert_facts(program, ["n0 p4", "n1 num", "n4 p4", "n5 num", "n6 num"], 1)
        self.assert_facts(program, ["n0 p4", "n1 num", "n4 p4", "n5 num", "n6 num"], 9)
        self.assertEqual(spare_facts(program, 0), ["n0 p4", "n3 num", "n4 p4", "n5 num", "n6 num"])
        self.assertEqual(spare_facts(program, 9), ["n0 f2", "n2 f2", "n3 num"])

    def test_fst_and_snd(self):
        self.assert_zero("(fst (pair 0 1))")
        self.assert_zero("(snd (pair 1 0))")
        self.assert_not_zero("(fst (pair 1 0))")
        self.assert_not_zero("(snd (pair 0 1))")
        self.assert_gives("(fst (snd (pair 1 (pair (fun x x) 2))))", "f5")

    def test_call(self):
        self.assert_facts("((fun x (pair x x)) 5)", ["n0 p2", "n1 f1", "n2 p2", "n3 num", "n4 num", "n5 num"])
        self.assert_counts("((fun x (pair x x)) 5)", 6, 1)
        self.assert_zero("((fun x x) 0)")
        self.assert_zero("((fun x 0) 1)")

    def test_a_body_that_is_not_called_makes_no_step(self):
        self.assertEqual(spare_facts("(fun x (add 1 2))", 0), ["n1 num", "n2 num", "n3 num"])
        self.assert_counts("(fun x (add 1 2))", 1, 0)


class References(Runs):
    def test_get_reads_what_was_put_in(self):
        self.assert_zero("(get (new 0))")
        self.assert_not_zero("(get (new 1))")

    def test_set_gives_its_second_part(self):
        self.assert_zero("(set (new 5) 0)")
        self.assert_not_zero("(set (new 0) 5)")

    def test_set_puts_in(self):
        self.assert_zero("(get r)", "(let r (new 1) (let u (set r 0) {}))")
        self.assert_not_zero("(get r)", "(let r (new 0) (let u (set r 1) {}))")
        self.assert_zero("(get r)", "(let r (new 1) (let u (set r 2) (let u (set r 0) {})))")

    def test_the_same_reference_by_two_names(self):
        self.assert_zero("(get r)", "(let r (new 1) (let q r (let u (set q 0) {})))")
        self.assert_zero("(get (fst p))", "(let r (new 1) (let p (pair r r) (let u (set (snd p) 0) {})))")

    def test_two_references_of_one_new(self):
        around = "(let m (fun x (new x)) (let a (m 1) (let b (m 1) (let u (set a 0) {}))))"
        self.assert_zero("(get a)", around)
        self.assert_not_zero("(get b)", around)

    def test_what_is_set_in_a_call_stays(self):
        self.assert_zero("(get r)", "(let r (new 1) (let u ((fun x (set x 0)) r) {}))")
        self.assert_zero("(get r)", "(let r (new 1) (let f (fun x (set r x)) (let u (f 0) {})))")

    def test_parts_are_run_from_left_to_right(self):
        around = "(let r (new 1) {})"
        self.assert_zero("(snd (pair (set r 0) (get r)))", around)
        self.assert_not_zero("(fst (pair (get r) (set r 0)))", around)
        self.assert_zero("(add (set r 50) (get r))", around)
        self.assert_not_zero("(add (get r) (set r 50))", around)
        self.assert_zero("((fun x x) (set r 0))", around)
        self.assert_zero("((let u (set r 0) (fun x x)) (get r))", around)
        self.assert_zero("(set (let u (set r 0) r) (get r))", around)
        self.assert_zero("(let u (set r 0) (get r))", around)

    def test_an_argument_is_run_ahead_of_the_body(self):
        self.assert_zero("((fun x (get r)) (set r 0))", "(let r (new 1) {})")

    def test_a_reference_with_itself_inside(self):
        self.assert_gives("(let r (new 0) (let u (set r r) (get (get (get r)))))", "r1")

    def test_a_function_that_calls_itself_by_a_reference(self):
        program = "(let r (new 0) (let u (set r (fun x (if x (new x) ((get r) (add x 1))))) ((get r) 97)))"
        self.assert_gives(program, "r9")
        self.assert_counts(program, 21, 2)


class Names(Runs):
    def test_bound_again(self):
        self.assert_zero("x", "(let x 1 (let x 0 {}))")
        self.assert_zero("x", "(let x 1 ((fun x {}) 0))")
        self.assert_zero("(add x (let x 50 x))", "(let x 50 {})")
        self.assert_not_zero("(let y (let x 0 x) x)", "(let x 1 {})")
        self.assert_zero("(let x x x)", "(let x 0 {})")

    def test_functions_keep_what_the_names_around_are_bound_to(self):
        self.assert_zero("(f 2)", "(let x 0 (let f (fun y x) (let x 1 {})))")
        around = "(let m (fun x (fun y x)) (let a (m 0) (let b (m 1) {})))"
        self.assert_zero("(a 9)", around)
        self.assert_not_zero("(b 9)", around)

    def test_a_function_called_within_itself_keeps_its_own_argument(self):
        self.assert_zero("((f f) 1)", "(let f (fun s (fun x (let u (if x 0 ((s s) 0)) (add x 99)))) {})")
        self.assert_not_zero("((f f) 1)", "(let f (fun s (fun x (let u (if x 0 ((s s) 0)) x))) {})")

    def test_the_caller_s_names_are_not_seen(self):
        self.assert_zero("((fun y (f y)) 1)", "(let y 0 (let f (fun z y) {}))")


class Wrong(Runs):
    def test_call(self):
        self.assert_facts("(1 (pair 2 3))", ["n1 num", "n2 p2", "n3 num", "n4 num"])
        self.assert_facts("((pair 1 2) 3)", ["n1 p1", "n2 num", "n3 num", "n4 num"])
        self.assert_facts("((new 1) in)", ["n1 r1", "n2 num", "n3 num"])
        self.assert_counts("(1 2)", 2, 0)

    def test_a_call_s_argument_may_be_wrong_first(self):
        self.assert_facts("(1 (fst 2))", ["n1 num", "n3 num"])
        self.assert_facts("((fun x 1) (fst 2))", ["n1 f1", "n4 num"])
        self.assert_counts("((fun x 1) (fst 2))", 2, 0)
        self.assertEqual(ask_of("((fun x 1) (fst 2))", ("arrows",)), [[1, 0, 1]])

    def test_if(self):
        for condition, facts in (("(fun x x)", ["n1 f1"]), ("(pair 1 2)", ["n1 p1", "n2 num", "n3 num"]),
                                 ("(new 0)", ["n1 r1", "n2 num"])):
            self.assert_facts(f"(if {condition} 5 6)", facts)

    def test_add(self):
        self.assert_facts("(add (fun x x) (new 1))", ["n1 f1", "n3 r3", "n4 num"])
        self.assert_facts("(add 1 (pair 2 3))", ["n1 num", "n2 p2", "n3 num", "n4 num"])
        self.assert_facts("(add (new 1) 2)", ["n1 r1", "n2 num", "n3 num"])
        self.assert_facts("(add (fst 1) 2)", ["n2 num"])

    def test_fst_and_snd(self):
        for word in ("fst", "snd"):
            self.assert_facts(f"({word} 1)", ["n1 num"])
            self.assert_facts(f"({word} (fun x x))", ["n1 f1"])
            self.assert_facts(f"({word} (new 1))", ["n1 r1", "n2 num"])

    def test_get(self):
        self.assert_facts("(get 1)", ["n1 num"])
        self.assert_facts("(get (fun x x))", ["n1 f1"])
        self.assert_facts("(get (pair 1 2))", ["n1 p1", "n2 num", "n3 num"])

    def test_set(self):
        self.assert_facts("(set 1 (fun x x))", ["n1 num", "n2 f2"])
        self.assert_facts("(set (fun x x) 1)", ["n1 f1", "n3 num"])
        self.assert_facts("(set (pair 1 2) 3)", ["n1 p1", "n2 num", "n3 num", "n4 num"])

    def test_nothing_is_run_behind_it(self):
        self.assert_facts("(pair (fst 1) (pair 2 3))", ["n2 num"])
        self.assert_facts("(let x (get 1) (pair 2 3))", ["n2 num"])
        self.assert_facts("(pair ((fun x (get x)) 1) 2)", ["n2 f2", "n4 num", "n5 num"])
        self.assert_counts("(pair ((fun x (get x)) 1) 2)", 3, 1)


class Long(Runs):
    def test_without_an_end(self):
        program = "((fun x (x x)) (fun x (x x)))"
        self.assert_facts(program, ["n1 f1", "n3 f5", "n4 f5", "n5 f5", "n7 f5", "n8 f5"])
        self.assert_counts(program, 6, 3)

    def test_three_hundred_steps(self):
        # 291 of the loop, one of the outer pair, eight of the rest.
        program = f"(pair {LOOP} (pair 0 (pair 1 (pair 2 (new 3)))))"
        self.assert_counts(program, 27, 4)
        self.assertEqual(spare_facts(program, 0), [])

    def test_one_step_more(self):
        program = f"(pair {LOOP} (pair 0 (pair 1 (pair 2 (new (new 3))))))"
        self.assertEqual(spare_facts(program, 0), [
            "n0 p0", "n19 p19", "n21 p21", "n23 p23", "n25 r25", "n26 r26", "n27 num"])
        self.assert_counts(program, 21, 4)

    def test_how_many_steps_hangs_on_the_input(self):
        program = f"(pair {LOOP.replace('72', '(add in 72)')} (pair 0 (pair 1 (pair 2 3))))"
        self.assert_counts(program, 28, 4, 1)
        self.assert_counts(program, 28, 4, 9)
        self.assertEqual(spare_facts(program, 0), ["n0 p0", "n21 p21", "n23 p23", "n25 p25", "n27 num"])

    def test_a_call_comes_about_ahead_of_its_body(self):
        # The argument is the step 300: the call is there, its body is not come to.
        program = f"(pair {LOOP} (pair 1 (pair 2 (new ((fun z z) 3)))))"
        self.assertEqual(spare_facts(program, 0), ["n0 p0", "n19 p19", "n21 p21", "n23 r23", "n24 num", "n26 num"])
        self.assert_counts(program, 22, 5)
        later = f"(pair {LOOP} (pair 1 (pair 2 (new (new ((fun z z) 3))))))"
        self.assertEqual(spare_facts(later, 0), [
            "n0 p0", "n19 p19", "n21 p21", "n23 r23", "n24 r24", "n25 num", "n27 num", "n28 num"])
        self.assert_counts(later, 21, 4)


class Deep(Runs):
    def setUp(self):
        self.limit = sys.getrecursionlimit()
        # Deep runs must not need deep calls of Python's own.
        sys.setrecursionlimit(len(inspect.stack(0)) + 60)

    def tearDown(self):
        sys.setrecursionlimit(self.limit)

    def test_as_deep_as_the_steps_allow(self):
        for number in (0, 9):
            self.assertEqual(ask_of(DEEP, ("run", number), ("spare", number)), [[6, 6, 3, 3], [0]])

    def test_each_kind_of_node(self):
        shapes = ("(fst {})", "(snd {})", "(new {})", "(get {})", "(pair {} 1)", "(pair 1 {})", "(set {} 1)",
                  "(set 1 {})", "(add {} 1)", "(add 1 {})", "(if {} 1 2)", "(if 0 {} 1)", "(if 1 2 {})",
                  "(let y {} y)", "(let y 1 {})", "({} 1)", "(1 {})", "((fun y {}) 1)", "((fun y 1) {})")
        for shape in shapes:
            body = shape.format("(x x)")
            with self.subTest(shape=shape):
                counts = ask_of(f"((fun x (x x)) (fun x {body}))", ("run", 5))[0]
                self.assertEqual(counts[0], counts[1])
                self.assertEqual(counts[2:], [4, 4] if shape == "((fun y {}) 1)" else [3, 3])

    def test_values_within_one_another(self):
        program = "(let f (fun s (fun n (if n 0 (pair n ((s s) (add n 1)))))) ((f f) 76))"
        self.assertEqual(ask_of(program, ("run", 0)), [[22, 22, 4, 4]])
        program = "(let f (fun s (fun n (let m (new n) ((s s) m)))) ((f f) 1))"
        self.assertEqual(ask_of(program, ("run", 0))[0][2:], [4, 4])


class Fewer(Runs):
    def test_what_comes_by_one_call_alone(self):
        program = "(let f (fun x x) (pair (f 1) (f (new 2))))"
        self.assert_counts(program, 12, 2)
        self.assertEqual(spare_facts(program, 0), ["n4 r9", "n7 num"])

    def test_arrows_that_a_run_has_not(self):
        program = "((if in (fun x x) (fun y 3)) (fun z z))"
        self.assertEqual(ask_of(program, ("arrows",)), [[2, 0, 3, 0, 5]])
        self.assert_counts(program, 6, 1, 0)
        self.assert_counts(program, 6, 1, 5)
        self.assertEqual(spare_facts(program, 0), ["n0 num", "n1 f5", "n5 f5", "n6 num"])
        self.assertEqual(spare_facts(program, 5), ["n0 f7", "n1 f3", "n3 f3", "n4 f7"])

    def test_a_reference_before_it_is_set(self):
        program = "(let r (new 0) (pair (get r) (set r (fun x x))))"
        self.assertEqual(spare_facts(program, 0), ["n4 f8"])

    def test_facts_and_arrows_count_once(self):
        program = "(let f (fun x x) (pair (f 1) (pair (f 2) ((fun y (f (f y))) 3))))"
        self.assert_counts(program, 19, 5)

    def test_as_they_are_answered(self):
        program = "(if in (new 1) (if in (pair 2 3) (fun x x)))"
        self.assertEqual(ask_of(program, ("spare", 4)), [
            [8, 0, 0, 3, 2, 0, 0, 2, 6, 0, 2, 3, 2, 0, 3, 0, 0, 0, 4, 2, 6, 0, 6, 2, 6, 0, 7, 0, 0, 0, 8, 0, 0]])


if __name__ == "__main__":
    unittest.main()
