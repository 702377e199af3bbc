"""Made and thinned code together with the checker, the machine and the plain run."""

import copy
import unittest

from fencemask.checker import check
from fencemask.code import instruction_at
from fencemask.machine import run
from fencemask.maker import make
from fencemask.plain import run_plainly
from fencemask.thinner import thin
from helper import ROOMS, STOP, TOP, W, Numbers, Within, code_of, let_by

# No instruction's group has more words than three, and none more than seven are put in ahead of it.
TURNS_EACH = 10


def plain_steps(guest, room, gates, block, boxes, memory, replies, most):
    """The whole plain run, and (place, boxes, memory) ahead of each instruction that it begins."""
    asked = (guest, room, gates, block, boxes, memory, replies)
    whole = run_plainly(*asked, most)
    ahead = [run_plainly(*asked, turn)[1:4] for turn in range(len(whole[5]))]
    return whole, ahead


class AsPlainly(Within):
    def machine_steps(self, told, stand, replies, count):
        """The machine's end, stand and rows where so many of the guest's instructions were done or it ended,
        and (place of the guest, boxes 0 to 5, memory) ahead of each of them."""
        plan, code, places = told
        named = {place: name for name, place in places.items()}
        ahead, rows = [], []
        end = ("spent",)
        while end == ("spent",):
            if stand[0] in named:
                if len(ahead) == count:
                    return end, stand, rows, ahead
                ahead.append((named[stand[0]], stand[1][:6], stand[2]))
            end, stand, kept, turns = run(plan, code, stand, replies[len(rows):], 1)
            rows += kept
        return end, stand, rows, ahead

    def does_the_same(self, told, plainly, hidden, replies):
        """That made or thinned code does what the plain run does; hidden are the values of boxes 6 and 7."""
        (end, place, boxes, memory, rows, trail), ahead = plainly
        plan, code, places = told
        if not ahead:
            return
        first = (places[ahead[0][0]], ahead[0][1] + hidden, ahead[0][2])
        self.assertEqual(first[0] % (8 * 2 ** plan[3]), 0)
        end_there, behind, rows_there, ahead_there = self.machine_steps(told, first, replies, len(trail))
        self.assertEqual(ahead_there, ahead)
        self.assertEqual([name for name, boxes_then, memory_then in ahead_there], trail)
        self.assertEqual([(n, row[:6], there) for n, row, there in rows_there], rows)
        self.assertEqual({row[7] for n, row, there in rows_there} | {behind[1][7]}, {hidden[1]})
        self.assertEqual((behind[1][:6], behind[2]), (boxes, memory))
        if end != ("spent",):
            self.assertEqual((end_there, behind[0]), (end, places[place]))
            self.assertEqual(run(plan, code, first, replies, TURNS_EACH * len(trail))[:3], (end, behind, rows_there))

    def both_do_the_same(self, guest, room, gates, block, boxes, memory, replies, hidden, most=40):
        plainly = plain_steps(guest, room, gates, block, boxes, memory, replies, most)
        self.assertNotEqual(plainly[0][0], ("leaves",))
        for made_by in (make, thin):
            with self.subTest(guest=guest, room=room, made_by=made_by):
                self.does_the_same(made_by(guest, room, gates), plainly, hidden, replies)
        return plainly[0]

    def test_guests_that_keep_to_their_room(self):
        numbers = Numbers(91)
        ends, sorts = {}, {}
        for step in range(150):
            room = ROOMS[step % len(ROOMS)]
            guest = numbers.kept_guest(room, 4)
            for block in range(len(guest)):
                whole = self.both_do_the_same(
                    guest, room, 4, block, numbers.kept_boxes(room), numbers.memory(room), numbers.replies(room, True),
                    numbers.values(2),
                )
                ends[whole[0][0]] = ends.get(whole[0][0], 0) + 1
                for i, at in whole[5]:
                    sorts[guest[i][at][0]] = sorts.get(guest[i][at][0], 0) + 1
        self.assertEqual(sorted(ends), ["asks", "spent", "stopped"])
        self.assertGreater(min(ends.values()), 20, ends)
        # All sorts of a guest were done, or this would show little.
        self.assertEqual(len(sorts), 17, sorts)
        self.assertGreater(min(sorts.values()), 40, sorts)

    def test_the_greatest_values_in_boxes_6_and_7(self):
        guest = (
            (("load", 0, 4, 0), ("store", 1, 4, 0), ("gate", 0), ("load", 2, 4, 0), ("put", 3, 1), ("through", 3)),
            (("store", 0, 5, 0), ("load", 5, 5, 0), STOP),
        )
        replies = [((1, 2, 3, 4, 47, 32, seventh), {47: 32}) for seventh in (0, TOP)]
        for hidden in ((0, 0), (TOP, TOP), (0, TOP), (TOP, 0), (31, 48), (32, 32)):
            for block in (0, 1):
                for count in (0, 1, 2):
                    boxes = (9, 8, 7, 6, 32, 47)
                    self.both_do_the_same(guest, (4, 32), 1, block, boxes, {33: 1, 90: 2}, replies[:count], hidden)

    def test_places_around_the_greatest_value(self):
        # By n each place is within the room, though b is beyond all of it, even beyond the other end.
        for room in ROOMS:
            for place in (room[1], room[1] + 2 ** room[0] - 1):
                for n in (1, -1, 2 ** 17 - 1, -(2 ** 17)):
                    block = (
                        ("put", 1, (place - n) % W), ("store", 0, 1, n), ("load", 2, 1, n), ("gate", 0),
                        ("store", 3, 1, n), STOP,
                    )
                    replies = [((5, (place - n) % W, 6, 7, 8, 9, 1), {})]
                    whole = self.both_do_the_same((block,), room, 1, 0, (4,) * 6, {}, replies, (3, 2))
                    self.assertEqual((whole[0], whole[3]), (("stopped",), {place: 7}))

    def test_a_loop_over_the_room(self):
        guest = (
            (("put", 0, 32), ("put", 1, 48), ("jump", 2)),
            (STOP,),
            (("load", 2, 0, 0), ("more", 2, 2, 3), ("store", 2, 0, 0), ("more", 0, 0, 1), ("less", 3, 0, 1),
             ("jumpif", 3, 2), ("put", 4, 1), ("through", 4)),
        )
        memory = {32: 5, 47: TOP}
        whole = self.both_do_the_same(guest, (4, 32), 0, 0, (0,) * 6, memory, [], (7, 7), 200)
        self.assertEqual(whole[0], ("stopped",))
        self.assertEqual(whole[3], {**{place: 3 for place in range(32, 48)}, 32: 8, 47: 2})

    def test_turns_that_are_spent(self):
        guest = ((("load", 0, 4, 0), ("more", 0, 0, 1), ("store", 0, 4, 0), ("jump", 0)),)
        for most in range(9):
            whole = self.both_do_the_same(guest, (4, 32), 0, 0, (0, 0, 0, 0, 40, 0), {}, [], (1, 2), most)
            self.assertEqual(whole[0], ("spent",))


class KeptWithin(Within):
    def some(self, count):
        """Rooms, guests that needn't keep to them, and the code that is made of them."""
        numbers = Numbers(92)
        for step in range(count):
            room = ROOMS[step % len(ROOMS)]
            guest = numbers.guest(4) if step % 2 else numbers.kept_guest(room, 4)
            for made_by in (make, thin):
                plan, code, places = made_by(guest, room, 4)
                yield numbers, room, guest, plan, code

    def test_what_is_made_is_let_by(self):
        for numbers, room, guest, plan, code in self.some(300):
            self.assertIsNone(check(plan, code))

    def test_guests_that_leave_stay_within(self):
        left = 0
        for numbers, room, guest, plan, code in self.some(60):
            for block in range(len(guest)):
                boxes, memory, replies = numbers.values(8), numbers.memory(room), numbers.replies(room)
                stand = (block * 8 * 2 ** plan[3], boxes, memory)
                told = run(plan, code, stand, replies, 60)
                self.keeps_within(plan, stand, told)
                left += run_plainly(guest, room, 4, block, boxes[:6], memory, replies, 60)[0] == ("leaves",)
        self.assertGreater(left, 100)

    def test_from_each_bundle_the_spans_hold(self):
        for numbers, room, guest, plan, code in self.some(20):
            for place in range(0, len(code), 8):
                stand = (place, numbers.values(8), numbers.memory(room))
                self.walk(plan, code, stand, numbers.replies(room), 12)

    def test_one_that_leaves_told_out(self):
        for sort, memory in (("store", {35: 9, 31: 1}), ("load", {31: 1})):
            guest = (((sort, 0, 1, 0), STOP),)
            told = run_plainly(guest, (4, 32), 0, 0, (9, 19, 0, 0, 0, 0), {31: 1}, [], 9)
            self.assertEqual(told[0], ("leaves",))
            for made_by in (make, thin):
                plan, code, places = made_by(guest, (4, 32), 0)
                stand = (0, (9, 19, 0, 0, 0, 0, 5, 6), {31: 1})
                boxes = (9 if sort == "store" else 0, 19, 0, 0, 0, 0, 35, 6)
                self.assertEqual(run(plan, code, stand, [], 9), (("stopped",), (2, boxes, memory), [], 3))

    def test_throughs_beyond_all_blocks(self):
        # Blocks that the guest hasn't are stops.
        guest = ((("through", 0),), (STOP,), (("put", 1, 7), STOP))
        for value, place in ((1, 8), (2, 18), (3, 24), (5, 8), (6, 18), (7, 24), (TOP, 24)):
            told = run_plainly(guest, (4, 32), 0, 0, (value,) * 6, {}, [], 9)
            self.assertEqual(told[0], ("stopped",) if value < 3 else ("leaves",))
            for made_by in (make, thin):
                plan, code, places = made_by(guest, (4, 32), 0)
                end, behind, rows, turns = run(plan, code, (0, (value,) * 8, {}), [], 9)
                self.assertEqual((end, behind[0]), (("stopped",), place))

    def test_changed_bits_are_refused_or_keep_within(self):
        guest = (
            (("put", 1, 40), ("load", 0, 1, 4), ("store", 0, 2, 5), ("load", 3, 2, 5), ("gate", 0), ("jump", 1)),
            (("jumpif", 0, 0), ("store", 4, 5, 0), ("through", 3)),
        )
        for made_by in (make, thin):
            plan, code, places = made_by(guest, (4, 32), 1)
            by, refused = self.changed_bits_keep_within(plan, code, Numbers(93), 8)
            self.assertGreater(min(by, refused), 100)

    def test_left_out_masks_are_refused(self):
        # So the tests above could fail: each mask of the maker's that is a step instead isn't let by.
        guest = ((("load", 0, 1, 4), STOP), (("store", 0, 2, 0), STOP), (("through", 3),))
        plan, code, places = make(guest, (4, 32), 0)
        masks = 0
        for at in range(len(code)):
            if instruction_at(code, at)[0] in ("fit", "aim"):
                masks += 1
                self.assertFalse(let_by(plan, code[:at] + code_of(("more", 5, 5, 0)) + code[at + 1:]))
        self.assertEqual(masks, 3)


class WhatIsHandedIn(unittest.TestCase):
    GUEST = ((("load", 0, 1, 2), ("load", 0, 1, 2), ("gate", 0), ("jump", 1)), (STOP,))

    def test_kinds(self):
        for made_by in (make, thin):
            told = made_by(self.GUEST, (4, 32), 1)
            self.assertEqual([type(part) for part in (told,) + told], [tuple, tuple, list, dict])

    def test_changes_behind_a_call(self):
        for made_by in (make, thin):
            guest = copy.deepcopy(self.GUEST)
            first = made_by(guest, (4, 32), 1)
            kept = copy.deepcopy(first)
            second = made_by(guest, (4, 32), 1)
            self.assertIsNot(first[1], second[1])
            self.assertIsNot(first[2], second[2])
            second[1].clear()
            second[2][(0, 0)] = 99
            self.assertEqual(first, kept)
            self.assertEqual(made_by(guest, (4, 32), 1), kept)
            self.assertEqual(guest, self.GUEST)


if __name__ == "__main__":
    unittest.main()
