import unittest

from fencemask.checker import spans_ahead
from fencemask.code import instruction_at
from fencemask.errors import FenceError, TooLong
from fencemask.maker import make
from fencemask.thinner import thin
from helper import ROOMS, STOP, THREE_BOXES, TOP, W, Numbers, code_of, filled

# The 16 places from 32 on.
ROOM = (4, 32)
PAD = ("more", 0, 0, 0)
# One word, and it makes none of the boxes that the accesses below are by.
STEP = ("more", 5, 5, 1)
LOAD = ("load", 0, 1, 0)
MASKED = (("fit", 6, 1), ("load", 0, 6, 0))
AGAIN = ("load", 0, 6, 0)
# Box 3 becomes 0 to 15, by a mask of the guest's own; three words.
MASK = (("put", 2, 15), ("and", 3, 4, 2))


class Thinned(unittest.TestCase):
    def becomes(self, block, expected, room=ROOM):
        """That the block, with a stop behind it, becomes the instructions told, with stops behind them."""
        with self.subTest(block=block, room=room):
            plan, code, places = thin((tuple(block) + (STOP,),), room, 16)
            self.assertEqual(code, filled(expected, len(code)))
            length = len(code_of(*expected)) + 1
            self.assertEqual(len(code), min(8 * 2 ** s for s in range(5) if length <= 8 * 2 ** s))


class ByItself(Thinned):
    def test_a_place_that_is_known(self):
        for sort in ("load", "store"):
            for v, n in (
                (32, 0), (47, 0), (40, 0), (31, 1), (48, -1), (0, 32), (0, 47), (32, 15), (47, -15),
                (2 ** 17 + 40, -2 ** 17),
            ):
                self.becomes((("put", 1, v), (sort, 0, 1, n)), (("put", 1, v), (sort, 0, 1, n)))

    def test_just_beyond_the_room(self):
        for sort in ("load", "store"):
            for v in (31, 48, 0, TOP):
                self.becomes((("put", 1, v), (sort, 0, 1, 0)), (("put", 1, v), ("fit", 6, 1), (sort, 0, 6, 0)))
            for v, n in ((32, -1), (47, 1), (0, 31), (0, 48), (30, 1), (49, -1), (32, 16), (47, -16)):
                self.becomes(
                    (("put", 1, v), (sort, 0, 1, n)),
                    (("put", 1, v), ("more", 6, 1, n), ("fit", 6, 6), (sort, 0, 6, 0)),
                )

    def test_what_passes_the_greatest_value(self):
        # The place would be within the room, but the span with n lies beyond it.
        for room, v, n in ((ROOM, TOP, 33), ((4, 0), TOP, 1), ((4, W - 16), 0, -1)):
            self.becomes(
                (("put", 1, v), ("load", 0, 1, n)),
                (("put", 1, v), ("more", 6, 1, n), ("fit", 6, 6), AGAIN), room,
            )

    def test_several_places_of_the_room(self):
        for sort in ("load", "store"):
            self.becomes(MASK + ((sort, 0, 3, 32),), MASK + ((sort, 0, 3, 32),))
            for n in (31, 33, 1, -1):
                self.becomes(MASK + ((sort, 0, 3, n),), MASK + (("more", 6, 3, n), ("fit", 6, 6), (sort, 0, 6, 0)))
            self.becomes(MASK + ((sort, 0, 3, 0),), MASK + (("fit", 6, 3), (sort, 0, 6, 0)))
            self.becomes(MASK + ((sort, 0, 3, 0),), MASK + ((sort, 0, 3, 0),), (4, 0))
            self.becomes(MASK + ((sort, 0, 3, 0),), MASK + (("fit", 6, 3), (sort, 0, 6, 0)), (3, 0))

    def test_at_the_ends_of_each_room(self):
        for k, base in ROOMS:
            for v in (base, base + 2 ** k - 1):
                self.becomes((("put", 1, v), LOAD), (("put", 1, v), LOAD), (k, base))
            for v in (base - 1, base + 2 ** k):
                if 0 <= v < W:
                    self.becomes((("put", 1, v), LOAD), (("put", 1, v),) + MASKED, (k, base))

    def test_by_spans_of_each_sort(self):
        for block in (
            (("put", 1, 30), ("more", 1, 1, 2), LOAD), (("put", 1, 16), ("add", 1, 1, 1), LOAD),
            (("put", 2, 4), ("put", 1, 40), ("sub", 1, 1, 2), LOAD), (("put", 2, 33), ("or", 1, 2, 2), LOAD),
            (("put", 2, 33), ("and", 1, 2, 2), LOAD), (("put", 2, 5), ("left", 1, 2, 2), ("load", 0, 1, -2 ** 7)),
            (("less", 1, 2, 3), ("load", 0, 1, 32)), (("less", 1, 2, 3), ("load", 0, 1, 46)),
            (("put", 2, 28), ("right", 1, 3, 2), ("load", 0, 1, 32)),
            (("put", 2, 33), ("xor", 1, 2, 2), ("load", 0, 1, 32)),
        ):
            self.becomes(block, block)
        for block in ((("less", 1, 2, 3), ("load", 0, 1, 47)), (("less", 1, 2, 3), ("load", 0, 1, 31))):
            self.becomes(block, block[:1] + (("more", 6, 1, block[1][3]), ("fit", 6, 6), AGAIN))

    def test_all_of_what_was_loaded(self):
        ahead = (("put", 1, 32), ("load", 1, 1, 0))
        self.becomes(ahead + (LOAD,), ahead + MASKED)

    def test_behind_a_gate(self):
        self.becomes((("put", 1, 32), ("gate", 0), LOAD), (("put", 1, 32), ("gate", 0)) + MASKED)

    def test_behind_a_jumpif(self):
        ahead = (("put", 1, 32), ("jumpif", 3, 0))
        self.becomes(ahead + (LOAD,), ahead + (LOAD,))

    def test_it_goes_ahead_of_box_6(self):
        # Box 6 holds the fitted box 1, but of box 1 enough is known by then.
        block = (("less", 1, 2, 3), ("load", 0, 1, 31), ("load", 0, 1, 32), ("load", 0, 1, 31))
        self.becomes(block, (block[0], ("more", 6, 1, 31), ("fit", 6, 6), AGAIN, block[2], AGAIN))


class ByBox6(Thinned):
    def test_the_same_b_and_n(self):
        for first, second in (("load", "load"), ("load", "store"), ("store", "load"), ("store", "store")):
            self.becomes(
                ((first, 0, 1, 0), (second, 2, 1, 0)), (("fit", 6, 1), (first, 0, 6, 0), (second, 2, 6, 0)),
            )
            for n in (1, -1, 2 ** 17 - 1, -2 ** 17):
                self.becomes(
                    ((first, 0, 1, n), (second, 2, 1, n)),
                    (("more", 6, 1, n), ("fit", 6, 6), (first, 0, 6, 0), (second, 2, 6, 0)),
                )

    def test_as_often_as_the_bundle_has_words(self):
        self.becomes((LOAD,) * 6, MASKED + (AGAIN,) * 5)
        self.becomes((LOAD,) * 7, MASKED + (AGAIN,) * 6)
        self.becomes((LOAD,) * 8, MASKED + (AGAIN,) * 6 + MASKED)
        load = ("load", 0, 1, 9)
        self.becomes((load,) * 7, (("more", 6, 1, 9), ("fit", 6, 6)) + (AGAIN,) * 6 + (
            ("more", 6, 1, 9), ("fit", 6, 6), AGAIN,
        ))

    def test_not_where_b_was_made_something(self):
        making = [("put", 1, 5), ("more", 1, 1, 0), ("more", 1, 2, 3), ("more", 1, 1, 1)]
        making += [(sort, 1, 2, 3) for sort in THREE_BOXES]
        for between in making:
            self.becomes((LOAD, between, LOAD), MASKED + (between,) + MASKED)
            load = ("load", 0, 1, 7)
            masked = (("more", 6, 1, 7), ("fit", 6, 6), AGAIN)
            self.becomes((load, between, load), masked + (between,) + masked)

    def test_not_where_a_load_made_b_something(self):
        load = ("load", 1, 1, 0)
        masked = (("fit", 6, 1), ("load", 1, 6, 0))
        self.becomes((load, load), masked * 2)
        self.becomes((LOAD, load, LOAD), MASKED + (("load", 1, 6, 0),) + MASKED)
        self.becomes(
            (LOAD, ("load", 1, 2, 0), LOAD), MASKED + (("fit", 6, 2), ("load", 1, 6, 0)) + MASKED,
        )
        # By itself, too, with no mask in between.
        ahead = (("put", 2, 40),)
        self.becomes(
            ahead + (LOAD, ("load", 1, 2, 0), LOAD), ahead + MASKED + (("load", 1, 2, 0),) + MASKED,
        )

    def test_not_where_box_6_was_made_something(self):
        other = ("store", 0, 2, 0)
        by_other = (("fit", 6, 2), ("store", 0, 6, 0))
        self.becomes((LOAD, other, LOAD), MASKED + by_other + MASKED)
        self.becomes((LOAD, other, other, LOAD), MASKED + by_other + (("store", 0, 6, 0),) + MASKED)
        other = ("store", 0, 2, 4)
        by_other = (("more", 6, 2, 4), ("fit", 6, 6), ("store", 0, 6, 0))
        self.becomes((LOAD, other, LOAD), MASKED + by_other + MASKED)

    def test_not_where_n_is_another_one(self):
        other = ("load", 0, 1, 1)
        by_other = (("more", 6, 1, 1), ("fit", 6, 6), AGAIN)
        self.becomes((LOAD, other), MASKED + by_other)
        self.becomes((other, LOAD), by_other + MASKED)
        self.becomes((other, LOAD, other), by_other + MASKED + by_other)
        opposite = ("load", 0, 1, -1)
        self.becomes((other, opposite), by_other + (("more", 6, 1, -1), ("fit", 6, 6), AGAIN))

    def test_not_where_b_is_another_one(self):
        for b in (0, 2, 5):
            self.becomes((LOAD, ("load", 3, b, 0)), MASKED + (("fit", 6, b), ("load", 3, 6, 0)))
            self.becomes(
                (("load", 0, 1, 3), ("load", 3, b, 3)),
                (("more", 6, 1, 3), ("fit", 6, 6), AGAIN, ("more", 6, b, 3), ("fit", 6, 6), ("load", 3, 6, 0)),
            )

    def test_not_behind_a_gate(self):
        self.becomes((LOAD, ("gate", 3), LOAD), MASKED + (("gate", 3),) + MASKED)
        load = ("load", 0, 1, 2)
        masked = (("more", 6, 1, 2), ("fit", 6, 6), AGAIN)
        self.becomes((load, ("gate", 3), load), masked + (("gate", 3),) + masked)

    def test_behind_all_else(self):
        between = [("put", 2, 5), ("jumpif", 1, 0), ("store", 1, 1, 0), ("store", 2, 1, 0), ("load", 2, 1, 0)]
        between += [("more", 2, 1, 4)] + [(sort, 2, 1, 1) for sort in THREE_BOXES]
        for one in between:
            there = (one[0], one[1], 6, 0) if one[0] in ("load", "store") else one
            self.becomes((LOAD, one, LOAD), MASKED + (there, AGAIN))

    def test_behind_an_access_by_itself(self):
        known = ("put", 2, 40), ("load", 3, 2, 0), ("store", 3, 2, 1)
        self.becomes((LOAD,) + known + (LOAD,), MASKED + known + (AGAIN,))

    def test_an_access_by_itself_is_no_group_of_the_makers(self):
        ahead = (("put", 1, 40), LOAD)
        self.becomes(ahead + (("load", 0, 1, 8),), ahead + (("more", 6, 1, 8), ("fit", 6, 6), AGAIN))


class Bundles(Thinned):
    def test_what_was_known_ahead_of_the_bundle(self):
        put = ("put", 1, 40)
        for ahead in range(6):
            self.becomes((put,) + (STEP,) * ahead + (LOAD,), (put,) + (STEP,) * ahead + (LOAD,))
        self.becomes((put,) + (STEP,) * 6 + (LOAD,), (put,) + (STEP,) * 6 + MASKED)
        self.becomes((put,) + (STEP,) * 5 + (LOAD, LOAD), (put,) + (STEP,) * 5 + (LOAD,) + MASKED)

    def test_box_6_from_ahead_of_the_bundle(self):
        for ahead in range(6):
            self.becomes((LOAD,) + (STEP,) * ahead + (LOAD,), MASKED + (STEP,) * ahead + (AGAIN,))
        self.becomes((LOAD,) + (STEP,) * 6 + (LOAD,), MASKED + (STEP,) * 6 + MASKED)

    def test_one_that_does_not_fit(self):
        self.becomes((STEP,) * 6 + (LOAD,), (STEP,) * 6 + MASKED)
        self.becomes((STEP,) * 7 + (LOAD,), (STEP,) * 7 + (PAD,) + MASKED)
        load = ("load", 0, 1, 4)
        masked = (("more", 6, 1, 4), ("fit", 6, 6), AGAIN)
        self.becomes((STEP,) * 5 + (load,), (STEP,) * 5 + masked)
        self.becomes((STEP,) * 6 + (load,), (STEP,) * 6 + (PAD,) * 2 + masked)
        self.becomes((STEP,) * 7 + (load,), (STEP,) * 7 + (PAD,) + masked)

    def test_it_is_chosen_anew(self):
        # Of box 3 enough is known in the first bundle, but not where the load that doesn't fit comes to stand.
        put = ("put", 3, 40)
        known = ("load", 2, 3, 0)
        masked = (("fit", 6, 3), ("load", 2, 6, 0))
        self.becomes(
            (put, known) + (STEP,) * 4 + (LOAD, known), (put, known) + (STEP,) * 4 + (PAD,) + MASKED + masked,
        )
        # Box 6 holds the fitted box 1 there, but not behind what doesn't fit.
        other = ("store", 0, 2, 7)
        self.becomes(
            (LOAD,) + (STEP,) * 4 + (other, LOAD),
            MASKED + (STEP,) * 4 + (PAD,) * 2 + (("more", 6, 2, 7), ("fit", 6, 6), ("store", 0, 6, 0)) + MASKED,
        )

    def test_behind_a_put_that_does_not_fit(self):
        put = ("put", 3, 40)
        late = ("put", 2, 1)
        masked = (("fit", 6, 3), ("load", 2, 6, 0))
        self.becomes(
            (put,) + (STEP,) * 5 + (late, ("load", 2, 3, 0)), (put,) + (STEP,) * 5 + (PAD, late) + masked,
        )
        self.becomes((LOAD,) + (STEP,) * 5 + (late, LOAD), MASKED + (STEP,) * 5 + (PAD, late) + MASKED)

    def test_one_word_fits_where_the_makers_group_does_not(self):
        self.becomes((("put", 1, 40),) + (STEP,) * 5 + (LOAD,), (("put", 1, 40),) + (STEP,) * 5 + (LOAD,))
        self.becomes((LOAD,) + (STEP,) * 5 + (LOAD,), MASKED + (STEP,) * 5 + (AGAIN,))

    def test_blocks_know_nothing_of_one_another(self):
        guest = ((("put", 1, 40), LOAD, ("jump", 1)), (LOAD, ("jump", 2)), (LOAD, STOP))
        plan, code, places = thin(guest, ROOM, 0)
        self.assertEqual(code, (
            filled((("put", 1, 40), LOAD, ("jump", 8)), 8) + filled(MASKED + (("jump", 16),), 8) + filled(MASKED, 8)
            + [0] * 8
        ))
        self.assertEqual(places, {
            (0, 0): 0, (0, 1): 2, (0, 2): 3, (1, 0): 8, (1, 1): 10, (2, 0): 16, (2, 1): 18,
        })


class Others(unittest.TestCase):
    def test_guests_without_loads_and_stores(self):
        numbers = Numbers(81)
        for step in range(80):
            guest = numbers.guest(3)
            guest = tuple(tuple(i for i in block if i[0] not in ("load", "store")) for block in guest)
            self.assertEqual(thin(guest, ROOM, 3), make(guest, ROOM, 3))

    def test_throughs_behind_box_6(self):
        guest = ((LOAD, ("through", 1)), (STOP,))
        plan, code, places = thin(guest, ROOM, 0)
        self.assertEqual(code[:8], filled(MASKED + (("aim", 6, 1), ("through", 6)), 8))

    def test_word_by_word(self):
        guest = (
            (("put", 1, 40), ("store", 0, 1, 4), ("load", 2, 3, 0), ("load", 2, 3, 0), ("jump", 1)),
            (("jumpif", 0, 1), ("through", 3)),
        )
        self.assertEqual(thin(guest, (4, 32), 2), (
            (4, 32, 1, 0, 2),
            [
                0x09000000, 40, 0x60200004, 0x86600000, 0x5ac00000, 0x5ac00000, 0x68000008, 0,
                0x70000008, 0x8e600000, 0x78c00000, 0, 0, 0, 0, 0,
            ],
            {(0, 0): 0, (0, 1): 2, (0, 2): 3, (0, 3): 5, (0, 4): 6, (1, 0): 8, (1, 1): 9},
        ))


class Lengths(unittest.TestCase):
    def test_fewer_bundles_than_the_makers(self):
        for block, made, thinned in (
            ((LOAD,) * 7 + (STOP,), 1, 1), ((LOAD,) * 6 + (STOP,), 1, 0), ((LOAD,) * 3 + (STOP,), 0, 0),
            ((("load", 0, 1, 5),) * 5 + (STOP,), 2, 0), ((("load", 0, 1, 5),) * 23 + (STOP,), 4, 2),
            ((("put", 1, 40),) + (LOAD,) * 5 + (STOP,), 1, 0), ((("put", 1, 40),) + (LOAD,) * 6 + (STOP,), 1, 1),
        ):
            with self.subTest(block=block):
                self.assertEqual(make((block,), ROOM, 0)[0], (4, 32, 0, made, 0))
                plan, code, places = thin((block,), ROOM, 0)
                self.assertEqual((plan, len(code)), ((4, 32, 0, thinned, 0), 8 * 2 ** thinned))

    def test_too_long_of_the_makers_and_not_of_the_thinners(self):
        block = (("load", 0, 1, 5),) * 23 + (STOP,)
        with self.assertRaises(TooLong):
            make((block,) * 16, ROOM, 0)
        plan, code, places = thin((block,) * 16, ROOM, 0)
        self.assertEqual((plan, len(code)), ((4, 32, 4, 2, 0), 512))

    def test_just_seven_and_more(self):
        pair = (("load", 0, 1, 5), ("load", 0, 2, 5))
        for block, s in ((pair * 8 + (STEP, STOP), 3), (pair * 11 + (STOP,), 4)):
            self.assertEqual(thin((block,) * 8, ROOM, 0)[0], (4, 32, 3, s, 0))
        self.assertEqual(thin((pair * 8 + (STEP, STOP),) * 16, ROOM, 0)[0], (4, 32, 4, 3, 0))
        for count in (9, 16):
            with self.assertRaises(FenceError) as caught:
                thin((pair * 8 + (STEP, STEP, STOP),) * count, ROOM, 0)
            self.assertIs(type(caught.exception), TooLong)


def fitted_ahead(laid, b, n):
    """Whether box 6 holds the fitted b and n behind the instructions of a bundle, looking back from the last."""
    for at in range(len(laid) - 1, -1, -1):
        instruction = laid[at]
        if instruction[0] == "fit":
            return instruction == ("fit", 6, b) if n == 0 else at > 0 and laid[at - 1] == ("more", 6, b, n)
        makes = instruction[0] in THREE_BOXES + ("put", "more", "load", "aim")
        if instruction[0] == "gate" or makes and instruction[1] in (6, b):
            return False
    return False


class LikeChance(unittest.TestCase):
    def group_at(self, instruction, room, spans, laid):
        """The group that the document asks for where these spans hold, and these instructions stand in the bundle."""
        if instruction[0] == "through":
            return [("aim", 6, instruction[1]), ("through", 6)]
        if instruction[0] not in ("load", "store"):
            return [instruction]
        sort, a, b, n = instruction
        if spans[b][0] + n >= room[1] and spans[b][1] + n < room[1] + 2 ** room[0]:
            return [instruction]
        if fitted_ahead(laid, b, n):
            return [(sort, a, 6, 0)]
        return ([("more", 6, b, n), ("fit", 6, 6)] if n else [("fit", 6, b)]) + [(sort, a, 6, 0)]

    def block_is_right(self, block, number, room, told):
        """Goes over a block's words group by group, with the spans that the checker tells; where the last one ends."""
        plan, code, places = told
        spans, size = spans_ahead(plan, code), 8 * 2 ** plan[3]
        at, laid = number * size, []
        for i, instruction in enumerate(block):
            laid = laid if at % 8 else []
            group = self.group_at(instruction, room, spans[at], laid)
            if at % 8 + len(code_of(*group)) > 8:
                while at % 8:
                    self.assertEqual(instruction_at(code, at), PAD)
                    at, laid = at + 1, []
                group = self.group_at(instruction, room, spans[at], laid)
            self.assertEqual(places[(number, i)], at)
            if instruction[0] in ("jump", "jumpif"):
                group = [instruction[:-1] + (instruction[-1] * size,)]
            words = code_of(*group)
            self.assertEqual(code[at:at + len(words)], words)
            at, laid = at + len(words), laid + group
        self.assertEqual(code[at:(number + 1) * size], [0] * ((number + 1) * size - at))
        return at - number * size

    def guests(self, count):
        numbers = Numbers(82)
        for step in range(count):
            room = ROOMS[step % len(ROOMS)]
            yield room, numbers.guest(5) if step % 4 == 0 else numbers.kept_guest(room, 5)

    def test_each_group_is_the_one_that_is_asked_for(self):
        for room, guest in self.guests(300):
            told = thin(guest, room, 5)
            plan, code, places = told
            ends = [self.block_is_right(block, number, room, told) for number, block in enumerate(guest)]
            self.assertEqual(len(places), sum(len(block) for block in guest))
            lacking = code[len(guest) * 8 * 2 ** plan[3]:]
            self.assertEqual(lacking, [0] * len(lacking))
            self.assertEqual(len(code), 8 * 2 ** (plan[2] + plan[3]))
            self.assertEqual(plan, room + (plan[2], plan[3], 5))
            self.assertTrue(2 ** plan[2] >= len(guest) > 2 ** plan[2] // 2)
            self.assertTrue(plan[3] == 0 or max(ends) > 4 * 2 ** plan[3])

    def test_no_group_begins_later_than_the_makers(self):
        earlier = 0
        for room, guest in self.guests(300):
            made, thinned = make(guest, room, 5), thin(guest, room, 5)
            self.assertLessEqual(thinned[0][3], made[0][3])
            self.assertEqual(list(thinned[2]), list(made[2]))
            for (block, at), place in thinned[2].items():
                within = place - thinned[2][(block, 0)]
                self.assertLessEqual(within, made[2][(block, at)] - made[2][(block, 0)])
                earlier += within < made[2][(block, at)] - made[2][(block, 0)]
        self.assertGreater(earlier, 1000)

    def test_each_choice_is_taken(self):
        itself, by_box_6, masked = 0, 0, 0
        for room, guest in self.guests(100):
            plan, code, places = thin(guest, room, 5)
            for (block, at), place in places.items():
                instruction = guest[block][at]
                if instruction[0] in ("load", "store"):
                    there = instruction_at(code, place)
                    itself += there == instruction
                    by_box_6 += there == instruction[:2] + (6, 0)
                    masked += there[0] in ("more", "fit")
        self.assertGreater(min(itself, by_box_6, masked), 50, (itself, by_box_6, masked))


if __name__ == "__main__":
    unittest.main()
