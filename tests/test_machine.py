import copy
import unittest

from fencemask.machine import in_room, run
from helper import THREE_BOXES, TOP, W, Numbers, code_of, filled, joined, with_box

# The room is the 16 places from 32 on; the code has 4 blocks of 2 bundles.
PLAN = (4, 32, 2, 1, 3)
BOXES = (10, 11, 12, 13, 14, 15, 16, 17)
NO_WORDS = (1, 19 * 2 ** 27, TOP, 2 ** 27 + 1)


def one_turn(instruction, boxes, memory=None, plan=PLAN):
    """What one turn makes of boxes and memory, the place being behind the instruction."""
    code = code_of(instruction, ("stop",))
    end, stand, rows, turns = run(plan, code, (0, boxes, memory or {}), [], 1)
    return end, stand, rows, turns, len(code) - 1


class InRoom(unittest.TestCase):
    def test_at_its_ends(self):
        for k, base in ((4, 32), (4, 0), (0, 5), (0, 0), (0, TOP), (20, 2 ** 20), (20, W - 2 ** 20)):
            plan = (k, base, 0, 0, 0)
            last = base + 2 ** k - 1
            for place in (base, (base + last) // 2, last):
                self.assertIs(in_room(plan, place), True, (plan, place))
            for place in (base - 1, last + 1, last + 2, base - 2 ** k):
                if 0 <= place < W:
                    self.assertIs(in_room(plan, place), False, (plan, place))


class OneTurn(unittest.TestCase):
    def makes(self, instruction, boxes, value, plan=PLAN, memory=None):
        with self.subTest(instruction=instruction, boxes=boxes):
            end, stand, rows, turns, behind = one_turn(instruction, boxes, memory, plan)
            self.assertEqual((end, rows, turns), (("spent",), [], 1))
            self.assertEqual(stand, (behind, with_box(boxes, instruction[1], value), memory or {}))

    def test_put(self):
        for a in range(8):
            for v in (0, 1, 77, 2 ** 31, TOP):
                self.makes(("put", a, v), BOXES, v)

    def test_three_boxes_each(self):
        for sort in THREE_BOXES:
            for a in (0, 3, 7):
                for b in range(8):
                    for c in range(8):
                        self.makes((sort, a, b, c), BOXES, joined(sort, BOXES[b], BOXES[c]))

    def test_three_boxes_at_the_bounds(self):
        values = (0, 1, 2, 5, 31, 32, 33, 2 ** 31 - 1, 2 ** 31, TOP - 1, TOP)
        for sort in THREE_BOXES:
            for b in values:
                for c in values:
                    self.makes((sort, 2, 0, 7), (b, 1, 2, 3, 4, 5, 6, c), joined(sort, b, c))

    def test_written_out(self):
        for sort, b, c, value in (
            ("add", 3, 5, 8), ("add", TOP, 1, 0), ("add", TOP, TOP, TOP - 1), ("add", 2 ** 31, 2 ** 31, 0),
            ("sub", 8, 5, 3), ("sub", 5, 5, 0), ("sub", 0, 1, TOP), ("sub", 0, TOP, 1), ("sub", 5, 8, W - 3),
            ("and", 12, 10, 8), ("or", 12, 10, 14), ("xor", 12, 10, 6), ("xor", TOP, TOP, 0),
            ("or", 2 ** 31, 1, 2 ** 31 + 1),
            ("less", 4, 5, 1), ("less", 5, 5, 0), ("less", 6, 5, 0), ("less", 0, TOP, 1), ("less", TOP, 0, 0),
            ("left", 3, 2, 12), ("left", 3, 31, 2 ** 31), ("left", 3, 32, 3), ("left", 3, 33, 6),
            ("left", TOP, 4, W - 16),
            ("left", 1, TOP, 2 ** 31), ("right", 13, 2, 3), ("right", TOP, 31, 1), ("right", 13, 32, 13),
            ("right", 13, 33, 6),
            ("right", TOP, TOP, 1), ("right", 2 ** 31, 31, 1),
        ):
            self.makes((sort, 0, 1, 2), (9, b, c, 3, 4, 5, 6, 7), value)

    def test_of_one_box_alone(self):
        for sort, value in (
            ("add", 18), ("sub", 0), ("and", 9), ("or", 9), ("xor", 0), ("less", 0), ("left", 9 * 512),
            ("right", 0),
        ):
            self.makes((sort, 4, 4, 4), (0, 1, 2, 3, 9, 5, 6, 7), value)

    def test_more(self):
        for b, n, value in (
            (5, 3, 8), (5, 0, 5), (5, -5, 0), (5, -6, TOP), (0, -(2 ** 17), W - 2 ** 17), (0, 2 ** 17 - 1, 2 ** 17 - 1),
            (TOP, 1, 0), (TOP, 0, TOP), (TOP, 2 ** 17 - 1, 2 ** 17 - 2), (TOP, -(2 ** 17), TOP - 2 ** 17),
        ):
            self.makes(("more", 1, 0, n), (b, 9, 2, 3, 4, 5, 6, 7), value)
            self.makes(("more", 7, 7, n), (0, 1, 2, 3, 4, 5, 6, b), value)

    def test_fit(self):
        for plan, b, value in (
            (PLAN, 0, 32), (PLAN, 5, 37), (PLAN, 15, 47), (PLAN, 16, 32), (PLAN, 32, 32), (PLAN, 47, 47),
            (PLAN, 48, 32), (PLAN, TOP, 47),
            ((0, 9, 0, 0, 0), 0, 9), ((0, 9, 0, 0, 0), TOP, 9), ((4, 0, 0, 0, 0), 20, 4),
            ((20, 2 ** 20, 0, 0, 0), TOP, 2 ** 21 - 1), ((20, W - 2 ** 20, 0, 0, 0), 2 ** 20 - 1, TOP),
            ((20, W - 2 ** 20, 0, 0, 0), 2 ** 20, W - 2 ** 20),
        ):
            self.makes(("fit", 0, 7), (9, 1, 2, 3, 4, 5, 6, b), value, plan)
            self.makes(("fit", 7, 0), (b, 1, 2, 3, 4, 5, 6, 7), value, plan)
            self.makes(("fit", 3, 3), (0, 1, 2, b, 4, 5, 6, 7), value, plan)

    def test_aim(self):
        for m, s, b, value in (
            (2, 1, 0, 0), (2, 1, 1, 16), (2, 1, 3, 48), (2, 1, 4, 0), (2, 1, 7, 48), (2, 1, TOP, 48),
            (0, 0, TOP, 0), (0, 7, 5, 0),
            (7, 0, 127, 1016), (7, 0, 128, 0), (3, 4, 5, 640), (1, 6, 3, 512),
        ):
            self.makes(("aim", 0, 7), (9, 1, 2, 3, 4, 5, 6, b), value, (4, 32, m, s, 0))
            self.makes(("aim", 6, 6), (9, 1, 2, 3, 4, 5, b, 7), value, (4, 32, m, s, 0))

    def test_load(self):
        memory = {32: 5, 40: TOP, 47: 7, 31: 1, 48: 2, 0: 3}
        for b, n, value in (
            (32, 0, 5), (40, 0, TOP), (47, 0, 7), (33, 0, 0), (32, 8, TOP), (48, -1, 7), (0, 32, 5), (0, 47, 7),
            (2 ** 17 + 32, -(2 ** 17), 5), (W - 1, 33, 5), (W - 2 ** 17 + 33, 2 ** 17 - 1, 5), (W - 8, 48, TOP),
            (36, -3, 0),
        ):
            self.makes(("load", 1, 2, n), (0, 9, b, 3, 4, 5, 6, 7), value, PLAN, memory)
            self.makes(("load", 7, 7, n), (0, 1, 2, 3, 4, 5, 6, b), value, PLAN, memory)
            self.makes(("load", 0, 0, n), (b, 1, 2, 3, 4, 5, 6, 7), value, PLAN, memory)
        self.makes(("load", 1, 2, 0), (0, 9, 32, 3, 4, 5, 6, 7), 0)

    def test_store(self):
        for memory in ({}, {32: 5, 40: 6, 31: 1}):
            for b, n, place in (
                (32, 0, 32), (47, 0, 47), (30, 10, 40), (50, -3, 47), (W - 1, 34, 33),
                (2 ** 17 + 40, -(2 ** 17), 40),
            ):
                for v in (0, 1, TOP):
                    boxes = (v, 1, 2, 3, 4, 5, 6, b)
                    end, stand, rows, turns, behind = one_turn(("store", 0, 7, n), boxes, memory)
                    told = dict(memory)
                    told[place] = v
                    self.assertEqual((end, stand, rows, turns), (("spent",), (1, boxes, told), [], 1))
                    boxes = (b, 1, 2, 3, 4, 5, 6, v)
                    self.assertEqual(one_turn(("store", 7, 0, n), boxes, memory)[1], (1, boxes, told))

    def test_store_of_the_place_itself(self):
        boxes = (0, 1, 2, 3, 4, 5, 6, 40)
        self.assertEqual(one_turn(("store", 7, 7, 1), boxes)[1], (1, boxes, {41: 40}))

    def test_stop(self):
        for place in (0, 1):
            told = run(PLAN, code_of(("stop",), ("stop",)), (place, BOXES, {40: 1}), [], 9)
            self.assertEqual(told, (("stopped",), (place, BOXES, {40: 1}), [], 1))

    def test_jump(self):
        for n in (0, 1, 3, 2 ** 17, 2 ** 18 - 1):
            end, stand, rows, turns = run(PLAN, code_of(("jump", n)) + [0] * 9, (0, BOXES, {}), [], 1)
            self.assertEqual(end, ("spent",) if n < 10 else ("lost",))
            self.assertEqual((stand, rows, turns), ((n, BOXES, {}), [], 1))

    def test_jumpif_both_ways(self):
        for a in (0, 7):
            for value in (0, 1, 2 ** 31, TOP):
                for n in (5, 2 ** 18 - 1):
                    boxes = with_box(BOXES, a, value)
                    end, stand, rows, turns = run(PLAN, filled([("jumpif", a, n)], 10), (0, boxes, {}), [], 1)
                    self.assertEqual((stand, turns), ((n if value else 1, boxes, {}), 1))
                    self.assertEqual(end, ("spent",) if n < 10 or not value else ("lost",))

    def test_through(self):
        for b in (0, 7):
            for value in (0, 1, 6, 9, 10, 1024, TOP):
                boxes = with_box(BOXES, b, value)
                end, stand, rows, turns = run(PLAN, filled([("through", b)], 10), (0, boxes, {}), [], 1)
                self.assertEqual((stand, turns), ((value, boxes, {}), 1))
                self.assertEqual(end, ("spent",) if value < 10 else ("lost",))

    def test_a_jump_amid_a_put_does_what_stands_there(self):
        code = [0] * 4 + code_of(("put", 2, code_of(("more", 3, 3, 5))[0]), ("stop",))
        self.assertEqual(run(PLAN, code, (5, BOXES, {}), [], 9), (("stopped",), (6, with_box(BOXES, 3, 18), {}), [], 2))
        self.assertEqual(
            run(PLAN, code, (4, BOXES, {}), [], 9), (("stopped",), (6, with_box(BOXES, 2, code[5]), {}), [], 2),
        )


class Gates(unittest.TestCase):
    def test_a_row_and_a_reply(self):
        code = code_of(("gate", 2), ("stop",))
        reply = ((20, 21, 22, 23, 24, 25, 26), {33: 9, 34: 0})
        told = run(PLAN, code, (0, BOXES, {33: 1, 40: 2}), [reply], 9)
        boxes = (20, 21, 22, 23, 24, 25, 26, 17)
        self.assertEqual(told, (("stopped",), (1, boxes, {33: 9, 34: 0, 40: 2}), [(2, BOXES, {33: 1, 40: 2})], 2))

    def test_several_one_behind_the_other(self):
        code = code_of(
            ("put", 7, 70), ("gate", 0), ("store", 0, 1, 0), ("gate", 2), ("gate", 1), ("gate", 0), ("stop",),
        )
        replies = [
            ((1, 32, 0, 0, 0, 0, TOP), {}),
            ((0, 0, 0, 0, 0, 0, 0), {32: 5, 47: 6}),
            ((9, 8, 7, 6, 5, 4, 3), {47: 0}),
            ((1, 1, 1, 1, 1, 1, 1), {40: 4}),
            ((2, 2, 2, 2, 2, 2, 2), {41: 5}),
        ]
        end, stand, rows, turns = run(PLAN, code, (0, BOXES, {}), replies, 20)
        self.assertEqual(rows, [
            (0, BOXES[:7] + (70,), {}),
            (2, (1, 32, 0, 0, 0, 0, TOP, 70), {32: 1}),
            (1, (0, 0, 0, 0, 0, 0, 0, 70), {32: 5, 47: 6}),
            (0, (9, 8, 7, 6, 5, 4, 3, 70), {32: 5, 47: 0}),
        ])
        self.assertEqual((end, turns), (("stopped",), 7))
        self.assertEqual(stand, (7, (1, 1, 1, 1, 1, 1, 1, 70), {32: 5, 47: 0, 40: 4}))

    def test_no_reply_left(self):
        code = code_of(("gate", 1), ("gate", 0), ("stop",))
        memory = {32: 3}
        told = run(PLAN, code, (0, BOXES, memory), [], 9)
        self.assertEqual(told, (("asks", 1), (0, BOXES, memory), [(1, BOXES, memory)], 1))
        reply = ((0,) * 7, {32: 4})
        boxes = (0,) * 7 + (17,)
        told = run(PLAN, code, (0, BOXES, memory), [reply], 9)
        self.assertEqual(told, (("asks", 0), (1, boxes, {32: 4}), [(1, BOXES, memory), (0, boxes, {32: 4})], 2))

    def test_a_gate_that_is_none(self):
        reply = ((0,) * 7, {})
        for gates, n in ((3, 3), (3, 4), (3, 2 ** 18 - 1), (0, 0), (1, 1), (16, 16)):
            plan = (4, 32, 2, 1, gates)
            code = code_of(("stop",), ("gate", n), ("stop",))
            for replies in ([], [reply]):
                told = run(plan, code, (1, BOXES, {32: 1}), replies, 9)
                self.assertEqual(told, (("lost",), (1, BOXES, {32: 1}), [], 1))
                told = run(plan, code, (1, BOXES, {32: 1}), replies, 1)
                self.assertEqual(told, (("lost",), (1, BOXES, {32: 1}), [], 1))
            self.assertEqual(run(plan, code, (1, BOXES, {}), [reply], 0), (("spent",), (1, BOXES, {}), [], 0))

    def test_each_gate_that_is_one(self):
        for gates in (1, 3, 16):
            for n in range(gates):
                told = run((4, 32, 2, 1, gates), code_of(("gate", n)), (0, BOXES, {}), [], 1)
                self.assertEqual(told, (("asks", n), (0, BOXES, {}), [(n, BOXES, {})], 1))

    def test_a_reply_needs_no_turn_of_its_own(self):
        code = code_of(("gate", 1), ("stop",))
        told = run(PLAN, code, (0, BOXES, {}), [((1,) * 7, {32: 1})], 1)
        self.assertEqual(told, (("spent",), (1, (1,) * 7 + (17,), {32: 1}), [(1, BOXES, {})], 1))


class Ends(unittest.TestCase):
    def test_a_start_beyond_the_code(self):
        for code in ([], [0], [0] * 64):
            for place in (len(code), len(code) + 1, 1024, 2 ** 31, TOP):
                for most in (0, 1, 1000):
                    told = run(PLAN, code, (place, BOXES, {1: 2}), [], most)
                    self.assertEqual(told, (("lost",), (place, BOXES, {1: 2}), [], 0))

    def test_code_without_words(self):
        self.assertEqual(run(PLAN, [], (0, BOXES, {}), [], 5), (("lost",), (0, BOXES, {}), [], 0))

    def test_at_what_is_no_instruction(self):
        for word in NO_WORDS:
            for most in (0, 5):
                told = run(PLAN, [0, word, 0], (1, BOXES, {}), [], most)
                self.assertEqual(told, (("lost",), (1, BOXES, {}), [], 0))
            code = code_of(("put", 0, word), ("stop",))
            self.assertEqual(run(PLAN, code, (1, BOXES, {}), [], 5), (("lost",), (1, BOXES, {}), [], 0))

    def test_a_put_that_is_the_last_word(self):
        for most in (0, 5):
            told = run(PLAN, [0, code_of(("put", 1, 0))[0]], (1, BOXES, {}), [], most)
            self.assertEqual(told, (("lost",), (1, BOXES, {}), [], 0))

    def test_lost_behind_the_last_word(self):
        code = code_of(("more", 0, 0, 1), ("put", 1, 5))
        told = (("lost",), (3, (11, 5) + BOXES[2:], {}), [], 2)
        self.assertEqual(run(PLAN, code, (0, BOXES, {}), [], 9), told)
        self.assertEqual(run(PLAN, code, (0, BOXES, {}), [], 2), told)
        self.assertEqual(run(PLAN, code, (0, BOXES, {}), [], 1), (("spent",), (1, (11,) + BOXES[1:], {}), [], 1))

    def test_lost_goes_ahead_of_spent(self):
        code = code_of(("jump", 2)) + [TOP, TOP]
        self.assertEqual(run(PLAN, code, (0, BOXES, {}), [], 1), (("lost",), (2, BOXES, {}), [], 1))
        self.assertEqual(run(PLAN, code, (2, BOXES, {}), [], 0), (("lost",), (2, BOXES, {}), [], 0))
        self.assertEqual(run(PLAN, code, (0, BOXES, {}), [], 0), (("spent",), (0, BOXES, {}), [], 0))

    def test_beyond(self):
        for (k, base), first_out, n in (
            ((4, 32), 31, 0), ((4, 32), 48, 0), ((4, 32), 0, 0), ((4, 32), TOP, 0), ((4, 32), 31, -5),
            ((4, 32), 48, 7), ((4, 32), 47 + 16, 2 ** 17 - 1),
            ((4, 0), 16, 0), ((4, 0), TOP, 0), ((4, 0), TOP, -1), ((0, 5), 4, 0), ((0, 5), 6, 3),
            ((20, W - 2 ** 20), 0, 0), ((20, W - 2 ** 20), W - 2 ** 20 - 1, 4),
        ):
            plan = (k, base, 2, 1, 3)
            memory = {first_out: 8, base: 3}
            for sort in ("load", "store"):
                boxes = (9, 1, 2, (first_out - n) % W, 4, 5, 6, 7)
                code = code_of(("stop",), (sort, 0, 3, n), ("stop",))
                with self.subTest(plan=plan, place=first_out, sort=sort):
                    told = run(plan, code, (1, boxes, memory), [], 9)
                    self.assertEqual(told, (("beyond", first_out), (1, boxes, memory), [], 1))

    def test_just_within(self):
        for base, place in ((32, 32), (32, 47), (0, 0), (0, 15), (W - 16, W - 16), (W - 16, TOP)):
            boxes = (9, 1, 2, place, 4, 5, 6, 7)
            told = run(
                (4, base, 2, 1, 3), code_of(("store", 0, 3, 0), ("load", 1, 3, 0), ("stop",)), (0, boxes, {}),
                [], 9,
            )
            self.assertEqual(told, (("stopped",), (2, with_box(boxes, 1, 9), {place: 9}), [], 3))

    def test_beyond_keeps_what_was_done_ahead(self):
        code = code_of(("put", 1, 32), ("store", 0, 1, 0), ("gate", 0), ("store", 0, 1, 99), ("stop",))
        told = run(PLAN, code, (0, BOXES, {}), [((7, 40, 0, 0, 0, 0, 0), {33: 1})], 9)
        boxes = (7, 40, 0, 0, 0, 0, 0, 17)
        row = (0, with_box(BOXES, 1, 32), {32: 10})
        self.assertEqual(told, (("beyond", 139), (4, boxes, {32: 10, 33: 1}), [row], 4))

    def test_turns(self):
        code = code_of(("more", 0, 0, 1), ("more", 0, 0, 1), ("stop",))
        for most, end, place, value, turns in (
            (0, ("spent",), 0, 10, 0), (1, ("spent",), 1, 11, 1), (2, ("spent",), 2, 12, 2),
            (3, ("stopped",), 2, 12, 3), (4, ("stopped",), 2, 12, 3), (1000, ("stopped",), 2, 12, 3),
        ):
            told = run(PLAN, code, (0, BOXES, {}), [], most)
            self.assertEqual(told, (end, (place, (value,) + BOXES[1:], {}), [], turns))

    def test_a_loop_takes_all_turns(self):
        told = run(PLAN, code_of(("more", 0, 0, 2), ("jump", 0)), (0, (0,) * 8, {}), [], 1000)
        self.assertEqual(told, (("spent",), (0, (1000,) + (0,) * 7, {}), [], 1000))
        told = run(PLAN, code_of(("more", 0, 0, 2), ("jump", 0)), (0, (0,) * 8, {}), [], 999)
        self.assertEqual(told, (("spent",), (1, (1000,) + (0,) * 7, {}), [], 999))

    def test_the_greatest_code(self):
        code = code_of(*[("more", 0, 0, 1)] * 1023, ("stop",))
        told = run(PLAN, code, (24, (0,) * 8, {}), [], 1000)
        self.assertEqual(told, (("stopped",), (1023, (999,) + (0,) * 7, {}), [], 1000))

    def test_a_loop_that_counts(self):
        code = code_of(
            ("put", 0, 5), ("put", 1, 32), ("store", 0, 1, 0), ("more", 1, 1, 1), ("more", 0, 0, -1),
            ("jumpif", 0, 4), ("load", 2, 1, -2), ("stop",),
        )
        end, stand, rows, turns = run(PLAN, code, (0, (0,) * 8, {}), [], 100)
        self.assertEqual((end, rows, turns), (("stopped",), [], 24))
        self.assertEqual(stand, (9, (0, 37, 2, 0, 0, 0, 0, 0), {32: 5, 33: 4, 34: 3, 35: 2, 36: 1}))

    def test_noughts_that_are_stored_are_told(self):
        told = run(
            PLAN, code_of(("store", 0, 1, 0), ("store", 0, 2, 0), ("stop",)),
            (0, (0, 32, 33, 0, 0, 0, 0, 0), {33: 7, 50: 0}), [], 9,
        )
        self.assertEqual(told[1][2], {32: 0, 33: 0, 50: 0})

    def test_a_load_writes_nothing(self):
        told = run(PLAN, code_of(("load", 0, 1, 0), ("stop",)), (0, (9, 32, 0, 0, 0, 0, 0, 0), {}), [], 9)
        self.assertEqual(told[1], (1, (0, 32, 0, 0, 0, 0, 0, 0), {}))


def long_run():
    """Code with loops, stores, gates and jumps, its stand and replies."""
    code = code_of(
        ("put", 0, 3), ("gate", 1), ("fit", 6, 1), ("store", 2, 6, 0), ("gate", 0),
        ("less", 3, 4, 5), ("jumpif", 3, 2), ("through", 6), ("stop",),
    )
    replies = [((n, 50 + n, n * n, 0, n, 4, 9), {32 + n: n, 40: 0}) for n in range(12)]
    return code, (0, BOXES, {35: 8, 90: 1}), replies


class GoneOn(unittest.TestCase):
    def test_a_run_that_was_cut(self):
        for code, stand, replies in [long_run()] + random_runs():
            whole = run(PLAN, code, stand, replies, 60)
            for cut in range(whole[3] + 1):
                first = run(PLAN, code, stand, replies, cut)
                if cut < whole[3]:
                    self.assertEqual((first[0], first[3]), (("spent",), cut))
                left = replies[len(first[2]):]
                if first[0] == ("spent",):
                    second = run(PLAN, code, first[1], left, 60 - cut)
                    self.assertEqual((second[0], second[1]), (whole[0], whole[1]))
                    self.assertEqual(first[2] + second[2], whole[2])
                    self.assertEqual(first[3] + second[3], whole[3])
                else:
                    self.assertEqual(first, whole)

    def test_the_long_run_is_one(self):
        code, stand, replies = long_run()
        end, behind, rows, turns = run(PLAN, code, stand, replies, 1000)
        self.assertEqual((end, behind[0], turns), (("stopped",), 9, 1 + 3 * 6 + 2))
        self.assertEqual([row[0] for row in rows], [1, 0, 1, 0, 1, 0])
        self.assertEqual(behind[2], {32: 0, 33: 1, 34: 2, 35: 3, 36: 4, 37: 5, 38: 16, 40: 0, 90: 1})


def random_runs():
    """Any words: instructions of all sorts, and some that are none."""
    numbers = Numbers(11)
    runs = []
    for step in range(150):
        code = []
        for at in range(16):
            sort = numbers.below(24)
            box = [numbers.below(8) for number in range(3)]
            if sort < 8:
                code += code_of((THREE_BOXES[sort], *box))
            elif sort < 11:
                code += code_of(("put", box[0], numbers.value()))
            else:
                code += code_of(numbers.pick((
                    ("more", box[0], box[1], numbers.below(99) - 50), ("fit", box[0], box[1]),
                    ("aim", box[0], box[1]), ("fit", box[0], box[1]),
                    ("load", box[0], box[1], 0), ("store", box[0], box[1], 0), ("jump", numbers.below(18)),
                    ("jumpif", box[0], numbers.below(18)),
                    ("through", box[0]), ("gate", numbers.below(4)), ("gate", numbers.below(3)), ("stop",),
                )))
        boxes = tuple(32 + numbers.below(16) if numbers.below(2) else numbers.value() for box in range(8))
        replies = [(numbers.values(7), {32 + numbers.below(16): numbers.value()}) for reply in range(numbers.below(5))]
        runs.append((code, (numbers.below(4), boxes, {32 + numbers.below(16): numbers.value(), 3: 4}), replies))
    return runs


class WhatIsHandedIn(unittest.TestCase):
    def test_it_stays_as_it_was_and_the_answer_is_the_same(self):
        for asked in [long_run()] + random_runs():
            kept = copy.deepcopy(asked)
            code, stand, replies = asked
            first = run(PLAN, code, stand, replies, 60)
            self.assertEqual(asked, kept)
            self.assertEqual(run(PLAN, code, stand, replies, 60), first)

    def test_kinds(self):
        code, stand, replies = long_run()
        told = run(PLAN, code, stand, replies, 60)
        self.assertEqual([type(part) for part in told], [tuple, tuple, list, int])
        self.assertEqual([type(part) for part in told[1]], [int, tuple, dict])
        for row in told[2]:
            self.assertEqual([type(part) for part in row], [int, tuple, dict])

    def test_every_dict_and_list_is_a_new_one(self):
        code, stand, replies = long_run()
        first, second = run(PLAN, code, stand, replies, 60), run(PLAN, code, stand, replies, 60)
        dicts = [stand[2]] + [reply[1] for reply in replies]
        for told in (first, second):
            dicts += [told[1][2]] + [row[2] for row in told[2]]
        self.assertEqual(len({id(one) for one in dicts}), len(dicts))
        self.assertIsNot(first[2], second[2])

    def test_also_where_nothing_is_done(self):
        memory = {40: 1}
        for code, most in (([], 5), ([0], 0), ([0], 5), (code_of(("gate", 0)), 5), (code_of(("load", 0, 0, 0)), 5)):
            end, stand, rows, turns = run(PLAN, code, (0, BOXES, memory), [], most)
            dicts = [memory, stand[2]] + [row[2] for row in rows]
            self.assertEqual(len({id(one) for one in dicts}), len(dicts))

    def test_changes_behind_a_call(self):
        code, stand, replies = long_run()
        first = run(PLAN, code, stand, replies, 60)
        kept = copy.deepcopy(first)
        second = run(PLAN, code, stand, replies, 60)
        second[1][2][99] = 1
        second[2][0][2][98] = 2
        second[2].clear()
        self.assertEqual(first, kept)
        self.assertEqual(run(PLAN, code, stand, replies, 60), kept)
        stand[2][32] = 12345
        for reply in replies:
            reply[1].clear()
        replies.clear()
        code[0] = TOP
        self.assertEqual(first, kept)
        code, stand, replies = long_run()
        self.assertEqual(run(PLAN, code, stand, replies, 60), kept)

    def test_a_row_stays_as_it_was_then(self):
        code = code_of(("gate", 0), ("store", 0, 1, 0), ("gate", 0), ("stop",))
        reply = ((5, 32, 0, 0, 0, 0, 0), {})
        told = run(PLAN, code, (0, BOXES, {}), [reply, reply], 9)
        self.assertEqual([row[2] for row in told[2]], [{}, {32: 5}])
        told[1][2][32] = 6
        self.assertEqual(told[2][1][2], {32: 5})

    def test_a_told_stand_handed_on(self):
        code = code_of(("store", 0, 1, 0), ("more", 1, 1, 1), ("jump", 0))
        stand = run(PLAN, code, (0, (5, 32, 0, 0, 0, 0, 0, 0), {}), [], 3)[1]
        kept = copy.deepcopy(stand)
        behind = run(PLAN, code, stand, [], 3)[1]
        self.assertEqual(stand, kept)
        self.assertEqual(behind, (0, (5, 34, 0, 0, 0, 0, 0, 0), {32: 5, 33: 5}))


if __name__ == "__main__":
    unittest.main()
