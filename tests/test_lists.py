"""Refusals and their order, and what a list of calls keeps from one call to the next."""

import unittest

from helper import as_bytes, as_numbers, ask, ask_of, table_text
from leastflows.tables import answers

HUGE = 10 ** 18
PROGRAM = "((fun x (pair x (new x))) 1)"
LABELLED = ("node", "name", "parts", "inside", "callers")


class Refusals(unittest.TestCase):
    def test_no_such_node(self):
        for call in LABELLED:
            for label in (-1, -2, 7, 8, 30, 99, HUGE, -HUGE):
                with self.subTest(call=call, label=label):
                    self.assertEqual(ask_of(PROGRAM, (call, label)), [[-3]])

    def test_the_last_node_is_one(self):
        self.assertEqual(ask_of(PROGRAM, ("node", 0), ("node", 6)), [[1, 2, 2], [1, 0, 0]])

    def test_another_kind(self):
        kinds = {"name": (1,), "parts": (2,), "inside": (4,), "callers": (1,)}
        for call, fitting in kinds.items():
            for label in range(7):
                with self.subTest(call=call, label=label):
                    refused = ask_of(PROGRAM, (call, label)) == [[-5]]
                    self.assertEqual(refused, label not in fitting)

    def test_a_let_has_a_name_and_no_callers(self):
        self.assertEqual(ask_of("(let x 1 x)", ("name", 0), ("callers", 0)), [[1, 0, 0], [-5]])

    def test_no_node_comes_before_another_kind(self):
        for call in ("name", "parts", "inside", "callers"):
            with self.subTest(call=call):
                self.assertEqual(ask((call, 0), (call, 1), (call, -1)), [[-5], [-3], [-3]])

    def test_a_refused_call_leaves_everything(self):
        looks = [("size",), ("arrows",), ("node", 0), ("name", 1), ("parts", 2), ("inside", 4), ("callers", 1),
                 ("table",), ("check", ""), ("why", 0, 2, 2), ("run", 0), ("spare", 0)]
        seen = ask_of(PROGRAM, *looks)
        refused = [("node", 7), ("name", 0), ("parts", -1), ("inside", 2), ("callers", HUGE), ("program", ""),
                   ("program", "x"), ("program", "(pair 1 2"), ("program", "(" * 4000),
                   ("program", "(fun x (new x)) 1"), ("check", "n7 num\n"), ("check", "n0 num"), ("why", 7, 0, 0),
                   ("why", 0, 4, 0), ("why", 0, 0, 0), ("run", 10), ("spare", -1)]
        for call in refused:
            with self.subTest(call=call[0], handed=str(call[1])[:20]):
                answered = ask_of(PROGRAM, call, *looks)
                self.assertEqual(len(answered[0]), 1)
                self.assertLess(answered[0][0], 0)
                self.assertEqual(answered[1:], seen)


class Lists(unittest.TestCase):
    def test_the_program_at_the_beginning(self):
        self.assertEqual(ask(("size",), ("node", 0), ("arrows",), ("node", 1)), [[1, 1, 1, 1], [1, 0, 0], [0], [-3]])
        self.assertEqual(ask(("program", "("), ("size",)), [[-1], [1, 1, 1, 1]])

    def test_a_second_program(self):
        answered = ask(("program", "(fun x x)"), ("node", 0), ("program", "(pair 1 2)"), ("node", 0), ("parts", 0),
                       ("name", 0), ("program", "0"), ("size",))
        self.assertEqual(answered, [[2, 1], [1, 1, 0], [3, 5], [1, 2, 0], [1, 0, 0, 1, 0, 0], [-5], [1, 1],
                                    [1, 1, 1, 1]])

    def test_a_new_list_begins_anew(self):
        calls = as_numbers([("size",), ("program", PROGRAM), ("size",)])
        told = answers(calls)
        self.assertEqual(told, [4, 1, 1, 1, 1, 2, 7, 11, 4, 7, 11, 4, 11])
        self.assertEqual(answers(calls), told)
        self.assertEqual(answers([12]), [4, 1, 1, 1, 1])

    def test_what_is_handed_in_stays(self):
        calls = as_numbers([("program", PROGRAM), ("node", 0), ("program", "(("), ("arrows",), ("callers", 1),
                            ("size",), ("table",), ("check", table_text(PROGRAM)), ("check", "n0 f1\n"),
                            ("why", 5, 0, 3), ("run", 2), ("spare", 2)])
        before = list(calls)
        told = answers(calls)
        self.assertEqual(calls, before)
        self.assertEqual(answers(calls), told)
        self.assertEqual(calls, before)
        # What was handed in is not what is given back.
        self.assertIsNot(told, calls)

    def test_what_is_handed_in_is_only_read(self):
        class Kept(list):
            def refuse(self, *handed):
                raise AssertionError("what was handed in is changed")

            append = extend = insert = pop = remove = clear = sort = reverse = refuse
            __setitem__ = __delitem__ = __iadd__ = __imul__ = refuse

        calls = as_numbers([("program", PROGRAM), ("table",), ("check", table_text(PROGRAM)), ("check", "n1 f1\n"),
                            ("why", 5, 0, 3), ("run", 2), ("spare", 2), ("size",)])
        self.assertEqual(answers(Kept(calls)), answers(calls))

    def test_forty_calls(self):
        self.assertEqual(ask(*[("node", 0)] * 40), [[1, 0, 0]] * 40)
        program = "((fun a (a a)) (fun b (if in (b (pair b 1)) (set (new b) (get (new (b 2)))))))"
        self.assertEqual(ask(*[("program", program)] * 40), [[21, 33]] * 40)

    def test_a_text_that_looks_like_calls(self):
        self.assertEqual(answers([0, 4, 12, 1, 0, 5, 12]), [1, -1, 4, 1, 1, 1, 1])
        self.assertEqual(answers([0, 0, 12]), [1, -1, 4, 1, 1, 1, 1])

    def test_every_call_mixed(self):
        text = table_text(PROGRAM)
        own = [
            (("program", PROGRAM), [7, 11]), (("node", 2), [1, 2, 2]), (("name", 1), [1, 0, 0]),
            (("parts", 2), [1, 0, 0, 1, 3, 4]), (("inside", 4), [1, 0, 0]), (("arrows",), [1, 0, 1]),
            (("callers", 1), [1, 0]), (("table",), [len(text)] + as_bytes(text)), (("check", text), [1, 11]),
            (("why", 5, 0, 3), [2, 0, 6, 0, 1, 1, 5]), (("run", 9), [7, 7, 1, 1]), (("spare", 9), [0]),
            (("size",), [7, 11, 4, 11]),
        ]
        refused = [
            (("program", "((fun x x) 1"), [-1]), (("node", 7), [-3]), (("name", 0), [-5]), (("parts", 1), [-5]),
            (("inside", -1), [-3]), (("callers", 2), [-5]), (("check", text[:-1]), [-1]), (("why", 7, 9, -1), [-3]),
            (("why", 0, 9, 0), [-4]), (("why", 0, 0, 0), [-4]), (("run", HUGE), [-2]), (("spare", -1), [-2]),
            (("program", text), [-1]), (("check", PROGRAM), [-1]),
        ]
        for mixed in (own + refused + own, own + own[::-1] + refused[::-1], own + refused + own[:0:-1] + own[:1]):
            calls = [call for call, answer in mixed]
            self.assertGreaterEqual(len(calls), 40)
            self.assertEqual(ask(*calls[:40]), [answer for call, answer in mixed][:40])

    def test_every_call_between_programs(self):
        answered = ask(
            ("table",), ("run", 5), ("spare", 5), ("why", 0, 0, 7), ("check", "n0 num\n"), ("program", "(fun x 1)"),
            ("table",), ("run", 5), ("spare", 5), ("why", 0, 1, 0), ("check", "n0 num\n"), ("program", "in"),
            ("table",), ("run", 5), ("spare", 5), ("why", 0, 1, 0), ("check", "n0 num\n"))
        self.assertEqual(answered, [
            [7] + as_bytes("n0 num\n"), [1, 1, 0, 0], [0], [0], [1, 1], [2, 2],
            [13] + as_bytes("n0 f0\nn1 num\n"), [1, 1, 0, 0], [1, 0, 1, 0, 0], [0], [0, 0, 0, 1, 0], [1, 1],
            [7] + as_bytes("n0 num\n"), [1, 1, 0, 0], [0], [-4], [1, 1]])

    def test_a_run_keeps_nothing_for_the_next(self):
        program = "(let r (new 1) (if (set r (add (get r) 99)) (get r) (fun x x)))"
        self.assertEqual(ask_of(program, *[("run", 0), ("spare", 0)] * 10),
                         ask_of(program, ("run", 0), ("spare", 0)) * 10)

    def test_the_largest_lists(self):
        self.assertEqual(ask(*[("program", [40] * 4000)] * 4), [[-1]] * 4)
        self.assertEqual(ask(*[("check", [10] * 4000)] * 4), [[-1]] * 4)
        self.assertEqual(ask(*[("check", "")] * 40), [[0, 0, 0, 0, 0]] * 40)

    def test_all_that_is_answered_are_whole_numbers(self):
        calls = as_numbers([("program", PROGRAM), ("node", 0), ("name", 1), ("parts", 2), ("inside", 4), ("arrows",),
                            ("callers", 1), ("callers", 0), ("node", 9), ("program", ""), ("size",), ("table",),
                            ("check", ""), ("check", table_text(PROGRAM)), ("why", 5, 0, 3), ("why", 0, 0, 0),
                            ("run", 1), ("spare", 1), ("run", 10), ("check", "n")])
        told = answers(calls)
        self.assertEqual([value for value in told if type(value) is not int], [])
        self.assertIs(type(told), list)


if __name__ == "__main__":
    unittest.main()
