import copy
import unittest

from fencemask.plain import run_plainly
from helper import ROOMS, STOP, THREE_BOXES, TOP, W, Numbers, joined, with_box

# The 16 places from 32 on.
ROOM = (4, 32)
BOXES = (10, 11, 12, 13, 14, 15)


def one_turn(instruction, boxes, memory=None, room=ROOM):
    guest = ((instruction, STOP), (STOP,), (STOP,))
    return run_plainly(guest, room, 3, 0, boxes, memory or {}, [], 1)


class OneTurn(unittest.TestCase):
    def makes(self, instruction, boxes, value, memory=None, room=ROOM):
        with self.subTest(instruction=instruction, boxes=boxes):
            told = one_turn(instruction, boxes, memory, room)
            made = with_box(boxes, instruction[1], value)
            self.assertEqual(told, (("spent",), (0, 1), made, memory or {}, [], [(0, 0)]))

    def test_put(self):
        for a in range(6):
            for v in (0, 1, 77, 2 ** 31, TOP):
                self.makes(("put", a, v), BOXES, v)

    def test_three_boxes_each(self):
        for sort in THREE_BOXES:
            for a in range(6):
                for b in range(6):
                    for c in range(6):
                        self.makes((sort, a, b, c), BOXES, joined(sort, BOXES[b], BOXES[c]))

    def test_three_boxes_at_the_bounds(self):
        values = (0, 1, 2, 31, 32, 33, 2 ** 31 - 1, 2 ** 31, TOP - 1, TOP)
        for sort in THREE_BOXES:
            for b in values:
                for c in values:
                    self.makes((sort, 2, 0, 5), (b, 1, 2, 3, 4, c), joined(sort, b, c))

    def test_written_out(self):
        for sort, b, c, value in (
            ("add", 3, 5, 8), ("add", TOP, 1, 0), ("sub", 8, 5, 3), ("sub", 0, 1, TOP), ("and", 12, 10, 8),
            ("or", 12, 10, 14), ("xor", 12, 10, 6), ("less", 4, 5, 1), ("less", 5, 5, 0), ("left", 3, 33, 6),
            ("left", TOP, 4, W - 16), ("right", 13, 2, 3), ("right", TOP, 63, 1),
        ):
            self.makes((sort, 0, 1, 2), (9, b, c, 3, 4, 5), value)

    def test_more(self):
        for b, n, value in (
            (5, 3, 8), (5, 0, 5), (5, -5, 0), (5, -6, TOP), (0, -(2 ** 17), W - 2 ** 17), (TOP, 1, 0),
            (TOP, 2 ** 17 - 1, 2 ** 17 - 2), (TOP, -(2 ** 17), TOP - 2 ** 17),
        ):
            self.makes(("more", 1, 5, n), (0, 9, 2, 3, 4, b), value)

    def test_load(self):
        memory = {32: 5, 40: TOP, 47: 7, 31: 1, 48: 2, 0: 3}
        for b, n, value in (
            (32, 0, 5), (40, 0, TOP), (47, 0, 7), (33, 0, 0), (32, 8, TOP), (48, -1, 7), (0, 32, 5), (0, 47, 7),
            (2 ** 17 + 32, -(2 ** 17), 5), (W - 1, 33, 5), (W - 2 ** 17 + 33, 2 ** 17 - 1, 5), (W - 8, 48, TOP),
        ):
            self.makes(("load", 1, 2, n), (0, 9, b, 3, 4, 5), value, memory)
            self.makes(("load", 5, 5, n), (0, 1, 2, 3, 4, b), value, memory)

    def test_store(self):
        for memory in ({}, {32: 5, 40: 6, 31: 1}):
            for b, n, place in ((32, 0, 32), (47, 0, 47), (30, 10, 40), (50, -3, 47), (W - 1, 34, 33), (0, 47, 47)):
                for v in (0, 1, TOP):
                    boxes = (v, 1, 2, 3, 4, b)
                    told = dict(memory)
                    told[place] = v
                    self.assertEqual(
                        one_turn(("store", 0, 5, n), boxes, memory), (("spent",), (0, 1), boxes, told, [], [(0, 0)]),
                    )

    def test_at_the_rooms_ends(self):
        for k, base in ROOMS:
            for place in (base, base + 2 ** k - 1):
                for n in (0, 1, -1, 5, 2 ** 17 - 1, -(2 ** 17)):
                    boxes = (9, (place - n) % W, 2, 3, 4, 5)
                    self.makes(("load", 0, 1, n), boxes, 8, {place: 8}, (k, base))
                    self.assertEqual(
                        one_turn(("store", 0, 1, n), boxes, {place: 8}, (k, base)),
                        (("spent",), (0, 1), boxes, {place: 9}, [], [(0, 0)]),
                    )

    def test_just_beyond_the_rooms_ends(self):
        for k, base in ROOMS:
            for place in (base - 1, base + 2 ** k):
                for n in (0, 1, -1, 5, 2 ** 17 - 1, -(2 ** 17)):
                    for sort in ("load", "store"):
                        boxes = (9, (place - n) % W, 2, 3, 4, 5)
                        memory = {place % W: 8, base: 7}
                        with self.subTest(room=(k, base), place=place, n=n, sort=sort):
                            self.assertEqual(
                                one_turn((sort, 0, 1, n), boxes, memory, (k, base)),
                                (("leaves",), (0, 0), boxes, memory, [], [(0, 0)]),
                            )

    def test_around_the_greatest_value(self):
        for room, b, n, leaves in (
            ((3, 0), TOP, 0, True), ((3, 0), TOP, 1, False), ((3, 0), TOP, 8, False), ((3, 0), TOP, 9, True),
            ((3, 0), 0, -1, True), ((3, W - 8), 0, -1, False), ((3, W - 8), 0, -8, False), ((3, W - 8), 0, -9, True),
            ((3, W - 8), TOP, 0, False), ((3, W - 8), TOP, 1, True), ((3, W - 8), W - 9, 0, True),
        ):
            for sort in ("load", "store"):
                told = one_turn((sort, 0, 1, n), (0, b, 0, 0, 0, 0), None, room)
                self.assertEqual(told[0], ("leaves",) if leaves else ("spent",), (room, b, n))

    def test_stop(self):
        told = run_plainly(((STOP,), (STOP,)), ROOM, 0, 1, BOXES, {40: 1}, [], 9)
        self.assertEqual(told, (("stopped",), (1, 0), BOXES, {40: 1}, [], [(1, 0)]))

    def test_jump(self):
        for block in range(3):
            guest = ((STOP,), (STOP,), (STOP,), (("put", 0, 1), ("jump", block)))
            told = run_plainly(guest, ROOM, 0, 3, BOXES, {}, [], 2)
            boxes = with_box(BOXES, 0, 1)
            self.assertEqual(told, (("spent",), (block, 0), boxes, {}, [], [(3, 0), (3, 1)]))
            told = run_plainly(guest, ROOM, 0, 3, BOXES, {}, [], 3)
            self.assertEqual(told, (("stopped",), (block, 0), boxes, {}, [], [(3, 0), (3, 1), (block, 0)]))

    def test_jumpif_both_ways(self):
        for a in range(6):
            for value in (0, 1, 2 ** 31, TOP):
                for block in range(3):
                    guest = ((("jumpif", a, block), STOP), (STOP,), (STOP,))
                    boxes = with_box(BOXES, a, value)
                    told = run_plainly(guest, ROOM, 0, 0, boxes, {}, [], 1)
                    self.assertEqual(told, (("spent",), (block, 0) if value else (0, 1), boxes, {}, [], [(0, 0)]))

    def test_through_each_block(self):
        for count in (1, 2, 3, 16):
            guest = ((("through", 5),),) * count
            for value in range(count):
                boxes = with_box(BOXES, 5, value)
                told = run_plainly(guest, ROOM, 0, 0, boxes, {}, [], 1)
                self.assertEqual(told, (("spent",), (value, 0), boxes, {}, [], [(0, 0)]))

    def test_through_what_is_no_block(self):
        for count in (1, 2, 3, 16):
            guest = ((("put", 1, 1), ("through", 0)),) * count
            for value in (count, count + 1, 2 * count, 16, 8 * count, 2 ** 31, TOP):
                boxes = (value, 0, 2, 3, 4, 5)
                with self.subTest(count=count, value=value):
                    told = run_plainly(guest, ROOM, 0, count - 1, boxes, {33: 4}, [], 9)
                    trail = [(count - 1, 0), (count - 1, 1)]
                    boxes = with_box(boxes, 1, 1)
                    self.assertEqual(told, (("leaves",), (count - 1, 1), boxes, {33: 4}, [], trail))


class Gates(unittest.TestCase):
    def test_a_row_and_a_reply(self):
        guest = ((("gate", 2), STOP),)
        for seventh in (0, 26, TOP):
            reply = ((20, 21, 22, 23, 24, 25, seventh), {33: 9, 34: 0})
            told = run_plainly(guest, ROOM, 3, 0, BOXES, {33: 1, 40: 2}, [reply], 9)
            self.assertEqual(told, (
                ("stopped",), (0, 1), (20, 21, 22, 23, 24, 25), {33: 9, 34: 0, 40: 2},
                [(2, BOXES, {33: 1, 40: 2})], [(0, 0), (0, 1)],
            ))

    def test_several_one_behind_the_other(self):
        guest = ((("gate", 0), ("store", 0, 1, 0), ("gate", 2), ("jump", 1)), (("gate", 1), ("gate", 0), STOP))
        replies = [
            ((1, 32, 0, 0, 0, 0, TOP), {}),
            ((0, 0, 0, 0, 0, 0, 0), {32: 5, 47: 6}),
            ((9, 8, 7, 6, 5, 4, 3), {47: 0}),
            ((1, 1, 1, 1, 1, 1, 1), {40: 4}),
            ((2, 2, 2, 2, 2, 2, 2), {41: 5}),
        ]
        end, place, boxes, memory, rows, trail = run_plainly(guest, ROOM, 3, 0, BOXES, {}, replies, 20)
        self.assertEqual(rows, [
            (0, BOXES, {}), (2, (1, 32, 0, 0, 0, 0), {32: 1}), (1, (0, 0, 0, 0, 0, 0), {32: 5, 47: 6}),
            (0, (9, 8, 7, 6, 5, 4), {32: 5, 47: 0}),
        ])
        self.assertEqual((end, place), (("stopped",), (1, 2)))
        self.assertEqual((boxes, memory), ((1,) * 6, {32: 5, 47: 0, 40: 4}))
        self.assertEqual(trail, [(0, 0), (0, 1), (0, 2), (0, 3), (1, 0), (1, 1), (1, 2)])

    def test_no_reply_left(self):
        guest = ((("gate", 1), ("gate", 0), STOP),)
        memory = {32: 3}
        told = run_plainly(guest, ROOM, 2, 0, BOXES, memory, [], 9)
        self.assertEqual(told, (("asks", 1), (0, 0), BOXES, memory, [(1, BOXES, memory)], [(0, 0)]))
        boxes = (0,) * 6
        told = run_plainly(guest, ROOM, 2, 0, BOXES, memory, [((0,) * 7, {32: 4})], 9)
        rows = [(1, BOXES, memory), (0, boxes, {32: 4})]
        self.assertEqual(told, (("asks", 0), (0, 1), boxes, {32: 4}, rows, [(0, 0), (0, 1)]))

    def test_each_gate(self):
        for gates in (1, 3, 16):
            for n in range(gates):
                told = run_plainly(((("gate", n), STOP),), ROOM, gates, 0, BOXES, {}, [], 1)
                self.assertEqual(told, (("asks", n), (0, 0), BOXES, {}, [(n, BOXES, {})], [(0, 0)]))

    def test_a_reply_needs_no_turn_of_its_own(self):
        guest = ((("gate", 1), STOP),)
        told = run_plainly(guest, ROOM, 2, 0, BOXES, {}, [((1,) * 7, {32: 1})], 1)
        self.assertEqual(told, (("spent",), (0, 1), (1,) * 6, {32: 1}, [(1, BOXES, {})], [(0, 0)]))

    def test_twenty_replies(self):
        guest = ((("gate", 0), ("jump", 0)),)
        replies = [((step,) * 7, {32 + at: step for at in range(10)}) for step in range(20)]
        end, place, boxes, memory, rows, trail = run_plainly(guest, ROOM, 1, 0, BOXES, {}, replies, 1000)
        self.assertEqual((end, place, boxes), (("asks", 0), (0, 0), (19,) * 6))
        self.assertEqual([row[1] for row in rows], [BOXES] + [(step,) * 6 for step in range(20)])
        self.assertEqual(trail, [(0, 0), (0, 1)] * 20 + [(0, 0)])


class Turns(unittest.TestCase):
    GUEST = ((("more", 0, 0, 1), ("jump", 1)), (("more", 1, 1, 1), STOP))
    TRAIL = [(0, 0), (0, 1), (1, 0), (1, 1)]

    def test_none_just_enough_and_one_fewer(self):
        for most, end, place, boxes in (
            (0, ("spent",), (0, 0), (10, 11)), (1, ("spent",), (0, 1), (11, 11)), (2, ("spent",), (1, 0), (11, 11)),
            (3, ("spent",), (1, 1), (11, 12)), (4, ("stopped",), (1, 1), (11, 12)),
            (5, ("stopped",), (1, 1), (11, 12)), (1000, ("stopped",), (1, 1), (11, 12)),
        ):
            told = run_plainly(self.GUEST, ROOM, 0, 0, BOXES, {}, [], most)
            self.assertEqual(told, (end, place, boxes + BOXES[2:], {}, [], self.TRAIL[:most]))

    def test_none_at_each_first_instruction(self):
        reply = ((0,) * 7, {})
        for first in (STOP, ("jump", 0), ("through", 0)):
            told = run_plainly(((first,),), ROOM, 1, 0, BOXES, {40: 0}, [reply], 0)
            self.assertEqual(told, (("spent",), (0, 0), BOXES, {40: 0}, [], []))
        for first in (("gate", 0), ("load", 0, 1, 0), ("store", 0, 1, 0)):
            told = run_plainly(((first, STOP),), ROOM, 1, 0, BOXES, {}, [reply], 0)
            self.assertEqual(told, (("spent",), (0, 0), BOXES, {}, [], []))

    def test_one_turn_for_what_ends_a_run(self):
        for last, end in (
            (("gate", 0), ("asks", 0)), (("load", 0, 1, 0), ("leaves",)), (("store", 0, 1, 0), ("leaves",)),
        ):
            guest = ((("put", 1, 5), last, STOP),)
            self.assertEqual(run_plainly(guest, ROOM, 1, 0, BOXES, {}, [], 2)[0], end)
            told = run_plainly(guest, ROOM, 1, 0, BOXES, {}, [], 1)
            self.assertEqual((told[0], told[1], told[5]), (("spent",), (0, 1), [(0, 0)]))

    def test_a_loop_takes_all_turns(self):
        guest = ((("more", 0, 0, 2), ("jump", 0)),)
        told = run_plainly(guest, ROOM, 0, 0, (0,) * 6, {}, [], 1000)
        self.assertEqual(told, (("spent",), (0, 0), (1000, 0, 0, 0, 0, 0), {}, [], [(0, 0), (0, 1)] * 500))
        told = run_plainly(guest, ROOM, 0, 0, (0,) * 6, {}, [], 999)
        self.assertEqual(told, (("spent",), (0, 1), (1000, 0, 0, 0, 0, 0), {}, [], [(0, 0), (0, 1)] * 499 + [(0, 0)]))

    def test_a_trail_through_several_blocks(self):
        guest = (
            (("put", 0, 3), ("put", 1, 2), ("jump", 2)),
            (("put", 1, 0), ("through", 1)),
            (("more", 0, 0, -1), ("jumpif", 0, 3), STOP),
            (("through", 1),),
        )
        told = run_plainly(guest, ROOM, 0, 0, BOXES, {}, [], 99)
        round_trip = [(2, 0), (2, 1), (3, 0)]
        self.assertEqual(told[5], [(0, 0), (0, 1), (0, 2)] + round_trip * 2 + [(2, 0), (2, 1), (2, 2)])
        self.assertEqual(told[:3], (("stopped",), (2, 2), (0, 2, 12, 13, 14, 15)))
        self.assertEqual(run_plainly(guest, ROOM, 0, 1, BOXES, {}, [], 3)[5], [(1, 0), (1, 1), (0, 0)])


class Memory(unittest.TestCase):
    def test_what_was_handed_in_with_what_was_written(self):
        guest = ((("put", 0, 0), ("put", 1, 32), ("store", 0, 1, 0), ("store", 0, 1, 1), ("load", 2, 1, 5), STOP),)
        told = run_plainly(guest, ROOM, 0, 0, BOXES, {33: 7, 50: 0, 3: 4}, [], 9)
        self.assertEqual(told[2:4], ((0, 32, 0, 13, 14, 15), {32: 0, 33: 0, 50: 0, 3: 4}))

    def test_leaving_keeps_what_was_done_ahead(self):
        guest = ((("put", 1, 32), ("store", 0, 1, 0), ("gate", 0), ("store", 0, 1, 99), STOP),)
        told = run_plainly(guest, ROOM, 1, 0, BOXES, {}, [((7, 40, 0, 0, 0, 0, 0), {33: 1})], 9)
        row = (0, with_box(BOXES, 1, 32), {32: 10})
        trail = [(0, 0), (0, 1), (0, 2), (0, 3)]
        self.assertEqual(told, (("leaves",), (0, 3), (7, 40, 0, 0, 0, 0), {32: 10, 33: 1}, [row], trail))

    def test_a_row_stays_as_it_was_then(self):
        guest = ((("gate", 0), ("store", 0, 1, 0), ("gate", 0), ("store", 2, 1, 0), STOP),)
        reply = ((5, 32, 0, 0, 0, 0, 0), {})
        told = run_plainly(guest, ROOM, 1, 0, BOXES, {}, [reply, reply], 9)
        self.assertEqual([row[2] for row in told[4]], [{}, {32: 5}])
        self.assertEqual(told[3], {32: 0})


def told_otherwise(guest, room, block, boxes, memory, replies, most):
    """A plain run as the document tells it, with none of the program's functions."""
    boxes, memory, replies = list(boxes), dict(memory), list(replies)
    rows, trail, at = [], [], 0
    while len(trail) < most:
        trail.append((block, at))
        sort, *numbers = guest[block][at]
        behind = (block, at + 1)
        end = None
        if sort == "stop":
            end = ("stopped",)
        elif sort in ("jump", "jumpif", "through"):
            n = boxes[numbers[0]] if sort == "through" else numbers[-1]
            if sort != "jumpif" or boxes[numbers[0]]:
                behind = (n, 0)
            end = None if behind[0] in range(len(guest)) else ("leaves",)
        elif sort == "gate":
            rows.append((numbers[0], tuple(boxes), dict(memory)))
            end = None if replies else ("asks", numbers[0])
            if replies:
                reply, writes = replies.pop(0)
                boxes = list(reply)[:-1]
                memory = {**memory, **writes}
        elif sort in ("load", "store"):
            a, b, n = numbers
            place = (boxes[b] + n) % W
            end = None if place in range(room[1], room[1] + 2 ** room[0]) else ("leaves",)
            if end is None and sort == "load":
                boxes[a] = memory.get(place, 0)
            elif end is None:
                memory[place] = boxes[a]
        elif sort == "put":
            boxes[numbers[0]] = numbers[1]
        elif sort == "more":
            boxes[numbers[0]] = (boxes[numbers[1]] + numbers[2]) % W
        else:
            boxes[numbers[0]] = joined(sort, boxes[numbers[1]], boxes[numbers[2]])
        if end:
            return (end, (block, at), tuple(boxes), memory, rows, trail)
        block, at = behind
    return (("spent",), (block, at), tuple(boxes), memory, rows, trail)


def some_runs(count):
    """What run_plainly is handed, guests that keep to their room and such that needn't."""
    numbers = Numbers(61)
    runs = []
    for step in range(count):
        room = ROOMS[step % len(ROOMS)]
        kept = step % 3 > 0
        guest = numbers.kept_guest(room, 4) if kept else numbers.guest(4)
        boxes = numbers.kept_boxes(room) if kept or step % 2 else numbers.values(6)
        replies = numbers.replies(room, kept)
        block = numbers.below(len(guest))
        runs.append((guest, room, 4, block, boxes, numbers.memory(room), replies, numbers.pick((3, 40, 120))))
    return runs


class LikeChance(unittest.TestCase):
    def test_as_told_otherwise(self):
        ends = {}
        for asked in some_runs(600):
            guest, room, gates, *others = asked
            told = run_plainly(*asked)
            self.assertEqual(told, told_otherwise(guest, room, *others))
            ends[told[0][0]] = ends.get(told[0][0], 0) + 1
        self.assertEqual(sorted(ends), ["asks", "leaves", "spent", "stopped"])
        self.assertGreater(min(ends.values()), 30, ends)

    def test_guests_that_keep_to_their_room(self):
        numbers = Numbers(62)
        for step in range(100):
            room = ROOMS[step % len(ROOMS)]
            guest = numbers.kept_guest(room)
            for block in range(len(guest)):
                told = run_plainly(
                    guest, room, 16, block, numbers.kept_boxes(room), {}, numbers.replies(room, True), 50,
                )
                self.assertNotEqual(told[0], ("leaves",))


class WhatIsHandedIn(unittest.TestCase):
    def test_it_stays_as_it_was_and_the_answer_is_the_same(self):
        for asked in some_runs(60):
            kept = copy.deepcopy(asked)
            first = run_plainly(*asked)
            self.assertEqual(asked, kept)
            self.assertEqual(run_plainly(*asked), first)

    def test_kinds(self):
        for asked in some_runs(60):
            told = run_plainly(*asked)
            self.assertEqual([type(part) for part in told], [tuple, tuple, tuple, dict, list, list])
            self.assertEqual(len(told[2]), 6)
            for row in told[4]:
                self.assertEqual([type(part) for part in row], [int, tuple, dict])
                self.assertEqual(len(row[1]), 6)
            self.assertEqual({type(place) for place in told[5]}, {tuple})

    def test_every_list_and_dict_is_a_new_one(self):
        for asked in some_runs(60):
            memory, replies = asked[5], asked[6]
            apart = [memory, replies] + [reply[1] for reply in replies]
            for told in (run_plainly(*asked), run_plainly(*asked)):
                apart += [told[3], told[4], told[5]] + [row[2] for row in told[4]]
            self.assertEqual(len({id(one) for one in apart}), len(apart))

    def test_changes_behind_a_call(self):
        guest = ((("gate", 0), ("store", 0, 4, 0), ("gate", 0), STOP),)
        memory, replies = {32: 1}, [((1, 2, 3, 4, 40, 6, 7), {33: 2})]
        asked = (guest, ROOM, 1, 0, BOXES, memory, replies, 9)
        first = run_plainly(*asked)
        kept = copy.deepcopy(first)
        second = run_plainly(*asked)
        second[3][99] = 1
        second[4][0][2][98] = 2
        second[4].clear()
        second[5].append(3)
        self.assertEqual(first, kept)
        self.assertEqual(run_plainly(*asked), kept)
        memory[34] = 5
        replies[0][1].clear()
        replies.clear()
        self.assertEqual(first, kept)

    def test_what_was_told_handed_on(self):
        guest = ((("store", 0, 1, 0), ("more", 1, 1, 1), ("jump", 0)),)
        told = run_plainly(guest, ROOM, 0, 0, (5, 32, 0, 0, 0, 0), {}, [], 3)
        kept = copy.deepcopy(told)
        behind = run_plainly(guest, ROOM, 0, told[1][0], told[2], told[3], told[4], 3)
        self.assertEqual(told, kept)
        self.assertEqual(behind[1:4], ((0, 0), (5, 34, 0, 0, 0, 0), {32: 5, 33: 5}))


if __name__ == "__main__":
    unittest.main()
