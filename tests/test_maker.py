import unittest

from fencemask.code import words_of
from fencemask.errors import FenceError, TooLong
from fencemask.maker import make
from helper import ROOMS, STOP, THREE_BOXES, TOP, Numbers, code_of, filled

ROOM = (4, 32)
PAD = ("more", 0, 0, 0)
# One word each, so that they fill a bundle as wanted.
STEP = ("more", 1, 2, 3)


def made_otherwise(guest, room, gates):
    """What the maker makes, bundle by bundle."""
    blocks, begins = [], []
    for block in guest:
        bundles, offsets = [[]], []
        for instruction in block:
            group = [instruction]
            if instruction[0] in ("load", "store"):
                sort, a, b, n = instruction
                masks = [("more", 6, b, n), ("fit", 6, 6)] if n else [("fit", 6, b)]
                group = masks + [(sort, a, 6, 0)]
            if instruction[0] == "through":
                group = [("aim", 6, instruction[1]), ("through", 6)]
            words = code_of(*group)
            if len(code_of(*bundles[-1])) + len(words) > 8:
                bundles[-1] += [PAD] * (8 - len(code_of(*bundles[-1])))
                bundles.append([])
            offsets.append(8 * (len(bundles) - 1) + len(code_of(*bundles[-1])))
            bundles[-1] += group
        blocks.append([instruction for bundle in bundles for instruction in bundle])
        begins.append(offsets)
    m = min(m for m in range(9) if len(guest) <= 2 ** m)
    s = min(s for s in range(9) if all(len(code_of(*block)) <= 8 * 2 ** s for block in blocks))
    size = 8 * 2 ** s
    code = []
    for block in blocks:
        there = [i[:-1] + (size * i[-1],) if i[0] in ("jump", "jumpif") else i for i in block]
        code += filled(there, size)
    code += [0] * (2 ** m * size - len(code))
    places = {(i, at): size * i + place for i, row in enumerate(begins) for at, place in enumerate(row)}
    return (room + (m, s, gates), code, places)


def steps(count):
    return (STEP,) * count


def size_for(words):
    return 8 if words <= 8 else 16 if words <= 16 else 32


class Plans(unittest.TestCase):
    def test_as_many_blocks_as_are_needed(self):
        for count, m in (
            (1, 0), (2, 1), (3, 2), (4, 2), (5, 3), (7, 3), (8, 3), (9, 4), (15, 4), (16, 4),
        ):
            with self.subTest(count=count):
                told = make(((STOP,),) * count, ROOM, 3)
                self.assertEqual(told, ((4, 32, m, 0, 3), [0] * 8 * 2 ** m, {(i, 0): 8 * i for i in range(count)}))

    def test_the_room_and_the_gates(self):
        for room in ROOMS:
            for gates in (0, 1, 16):
                self.assertEqual(make(((STOP,),), room, gates), (room + (0, 0, gates), [0] * 8, {(0, 0): 0}))

    def test_as_many_bundles_as_are_needed(self):
        load, put = ("load", 0, 1, 5), ("put", 1, 7)
        for block, s in (
            (steps(6) + (STOP,), 0), (steps(7) + (STOP,), 0), (steps(8) + (STOP,), 1), (steps(15) + (STOP,), 1),
            (steps(16) + (STOP,), 2), (steps(23) + (STOP,), 2),
            ((put,) * 3 + steps(1) + (STOP,), 0), ((put,) * 4 + (STOP,), 1), ((put,) * 7 + steps(1) + (STOP,), 1),
            ((put,) * 8 + (STOP,), 2), ((put,) * 15 + steps(1) + (STOP,), 2), ((put,) * 16 + (STOP,), 3),
            ((load,) * 2 + steps(1) + (STOP,), 0), ((load,) * 2 + steps(2) + (STOP,), 1), ((load,) * 3 + (STOP,), 1),
            ((load,) * 16 + steps(1) + (STOP,), 3), ((load,) * 16 + steps(2) + (STOP,), 4), ((load,) * 23 + (STOP,), 4),
            (steps(6) + (("through", 0),), 0), (steps(7) + (("through", 0),), 1), ((("through", 0),), 0),
        ):
            with self.subTest(block=block):
                plan, code, places = make((block,), ROOM, 0)
                self.assertEqual((plan, len(code)), ((4, 32, 0, s, 0), 8 * 2 ** s))

    def test_the_longest_block_tells(self):
        for at in range(3):
            guest = tuple(steps(8) + (STOP,) if i == at else (STOP,) for i in range(3))
            plan, code, places = make(guest, ROOM, 0)
            self.assertEqual(plan, (4, 32, 2, 1, 0))
            self.assertEqual(code, [word for block in guest for word in filled(block, 16)] + [0] * 16)
            self.assertEqual([places[(i, 0)] for i in range(3)], [0, 16, 32])


class Groups(unittest.TestCase):
    def becomes(self, instruction, *group):
        with self.subTest(instruction=instruction):
            last = instruction[0] in ("jump", "through")
            block = (STEP, instruction) if last else (STEP, instruction, STEP, STOP)
            expected = [STEP] + list(group) + ([] if last else [STEP])
            plan, code, places = make((block,), ROOM, 16)
            self.assertEqual((plan, code), ((4, 32, 0, 0, 16), filled(expected, 8)))
            behind = {} if last else {(0, 2): 1 + len(code_of(*group)), (0, 3): 2 + len(code_of(*group))}
            self.assertEqual(places, {(0, 0): 0, (0, 1): 1, **behind})

    def test_loads_and_stores(self):
        for sort in ("load", "store"):
            for a, b in ((0, 0), (5, 5), (5, 0), (0, 5), (2, 3)):
                self.becomes((sort, a, b, 0), ("fit", 6, b), (sort, a, 6, 0))
                for n in (1, -1, 4, 2 ** 17 - 1, -(2 ** 17), 32):
                    self.becomes((sort, a, b, n), ("more", 6, b, n), ("fit", 6, 6), (sort, a, 6, 0))

    def test_through(self):
        for b in range(6):
            self.becomes(("through", b), ("aim", 6, b), ("through", 6))

    def test_those_that_stand_as_they_are(self):
        for instruction in (
            ("put", 0, 0), ("put", 5, TOP), ("put", 3, 77), ("more", 0, 0, 0), ("more", 5, 4, -(2 ** 17)),
            ("gate", 0), ("gate", 15), ("jump", 0), ("jumpif", 5, 0),
        ):
            self.becomes(instruction, instruction)
        for sort in THREE_BOXES:
            self.becomes((sort, 5, 0, 3), (sort, 5, 0, 3))

    def test_jumps_to_where_blocks_begin(self):
        for s, length in ((0, 1), (1, 9), (2, 17)):
            size = 8 * 2 ** s
            for block in (0, 1, 2, 7, 15):
                guest = ((("jumpif", 3, block), ("jump", block)),) + ((STOP,),) * 14 + (steps(length - 1) + (STOP,),)
                plan, code, places = make(guest, ROOM, 0)
                self.assertEqual(plan, (4, 32, 4, s, 0))
                self.assertEqual(code[:2], code_of(("jumpif", 3, block * size), ("jump", block * size)))
                self.assertEqual(places[(block, 0)], block * size)

    def test_word_by_word(self):
        guest = (
            (("put", 1, 77), ("store", 0, 1, 4), ("load", 2, 1, 0), ("gate", 1), ("jump", 1)),
            (("jumpif", 0, 0), ("through", 3)),
        )
        self.assertEqual(make(guest, (4, 32), 2), (
            (4, 32, 1, 1, 2),
            [
                0x09000000, 77, 0x56200004, 0x86c00000, 0x60c00000, 0x86200000, 0x5ac00000, 0x90000001,
                0x68000010, 0, 0, 0, 0, 0, 0, 0,
                0x70000000, 0x8e600000, 0x78c00000, 0, 0, 0, 0, 0, 0, 0, 0, 0, 0, 0, 0, 0,
            ],
            {(0, 0): 0, (0, 1): 2, (0, 2): 5, (0, 3): 7, (0, 4): 8, (1, 0): 16, (1, 1): 17},
        ))


class Bundles(unittest.TestCase):
    GROUPS = (
        (("put", 3, 9), (("put", 3, 9),)),
        (("load", 3, 4, 0), (("fit", 6, 4), ("load", 3, 6, 0))),
        (("store", 3, 4, 0), (("fit", 6, 4), ("store", 3, 6, 0))),
        (("load", 3, 4, 1), (("more", 6, 4, 1), ("fit", 6, 6), ("load", 3, 6, 0))),
        (("store", 3, 4, -1), (("more", 6, 4, -1), ("fit", 6, 6), ("store", 3, 6, 0))),
        (("add", 3, 4, 5), (("add", 3, 4, 5),)),
        (("gate", 0), (("gate", 0),)),
        (("jumpif", 0, 0), (("jumpif", 0, 0),)),
    )

    def test_each_group_at_each_place(self):
        for instruction, group in self.GROUPS:
            length = len(code_of(*group))
            for ahead in range(17):
                with self.subTest(instruction=instruction, ahead=ahead):
                    pads = (8 - ahead % 8) if ahead % 8 + length > 8 else 0
                    expected = steps(ahead) + (PAD,) * pads + group + (STEP, STOP)
                    plan, code, places = make((steps(ahead) + (instruction, STEP, STOP),), ROOM, 1)
                    self.assertEqual(code, filled(expected, size_for(ahead + pads + length + 2)))
                    begin = ahead + pads
                    self.assertEqual(
                        places, {**{(0, at): at for at in range(ahead)}, (0, ahead): begin,
                                 (0, ahead + 1): begin + length, (0, ahead + 2): begin + length + 1},
                    )

    def test_a_through_at_each_place(self):
        for ahead in range(17):
            pads = 1 if ahead % 8 == 7 else 0
            expected = steps(ahead) + (PAD,) * pads + (("aim", 6, 2), ("through", 6))
            plan, code, places = make((steps(ahead) + (("through", 2),),), ROOM, 0)
            self.assertEqual(code, filled(expected, size_for(ahead + pads + 2)))
            self.assertEqual(places[(0, ahead)], ahead + pads)

    def test_a_last_instruction_at_each_place(self):
        for last in (STOP, ("jump", 0)):
            for ahead in range(17):
                plan, code, places = make((steps(ahead) + (last,),), ROOM, 0)
                self.assertEqual(code, filled(steps(ahead) + (last,), size_for(ahead + 1)))
                self.assertEqual(places[(0, ahead)], ahead)

    def test_several_that_do_not_fit(self):
        load, put = ("load", 0, 1, 2), ("put", 5, 6)
        masked = (("more", 6, 1, 2), ("fit", 6, 6), ("load", 0, 6, 0))
        plan, code, places = make(((load, load, load, put, put, put, load, STOP),), ROOM, 0)
        self.assertEqual(code, filled(
            masked * 2 + (PAD, PAD) + masked + (put, put, PAD) + (put,) + masked + (STOP,), 32,
        ))
        self.assertEqual([places[(0, at)] for at in range(8)], [0, 3, 8, 11, 13, 16, 18, 21])

    def test_what_is_put_ahead_is_no_group(self):
        # The guest's own one of the same form has its place.
        plan, code, places = make((steps(6) + (PAD, ("put", 1, 2), STOP),), ROOM, 0)
        self.assertEqual(code, filled(steps(6) + (PAD, PAD, ("put", 1, 2), STOP), 16))
        self.assertEqual([places[(0, at)] for at in (6, 7, 8)], [6, 8, 10])

    def test_each_block_begins_a_bundle(self):
        guest = (steps(2) + (("jump", 2),), (("put", 0, 1), STOP), steps(9) + (("through", 1),))
        plan, code, places = make(guest, ROOM, 0)
        self.assertEqual(plan, (4, 32, 2, 1, 0))
        self.assertEqual(code, (
            filled(steps(2) + (("jump", 32),), 16) + filled((("put", 0, 1),), 16)
            + filled(steps(9) + (("aim", 6, 1), ("through", 6)), 16) + [0] * 16
        ))
        self.assertEqual(places, {
            (0, 0): 0, (0, 1): 1, (0, 2): 2, (1, 0): 16, (1, 1): 18,
            **{(2, at): 32 + at for at in range(10)},
        })


class Lengths(unittest.TestCase):
    LOAD = ("load", 0, 1, 5)

    def test_just_seven(self):
        for count, block, m, s in (
            (16, (self.LOAD,) * 16 + (STOP,), 4, 3), (9, (self.LOAD,) * 16 + (STOP,), 4, 3),
            (8, (self.LOAD,) * 23 + (STOP,), 3, 4), (5, (self.LOAD,) * 17 + (STOP,), 3, 4),
        ):
            for at in (0, count - 1):
                guest = tuple(block if i == at else (STOP,) for i in range(count))
                plan, code, places = make(guest, ROOM, 1)
                self.assertEqual((plan, len(code)), ((4, 32, m, s, 1), 1024))
            self.assertEqual(make((block,) * count, ROOM, 1)[0], (4, 32, m, s, 1))

    def test_more_than_seven(self):
        for count in (9, 15, 16):
            for length in (17, 23):
                block = (self.LOAD,) * length + (STOP,)
                for at in (0, count - 1):
                    guest = tuple(block if i == at else (STOP,) for i in range(count))
                    with self.assertRaises(FenceError) as caught:
                        make(guest, ROOM, 1)
                    self.assertIs(type(caught.exception), TooLong)

    def test_one_word_more(self):
        block = (self.LOAD,) * 16 + (STEP, STOP)
        self.assertEqual(make((block,) * 16, ROOM, 0)[0], (4, 32, 4, 3, 0))
        block = (self.LOAD,) * 16 + (STEP, STEP, STOP)
        with self.assertRaises(TooLong):
            make((block,) * 16, ROOM, 0)


class LikeChance(unittest.TestCase):
    def test_as_told_otherwise(self):
        numbers = Numbers(71)
        plans = {}
        for step in range(400):
            room = ROOMS[step % len(ROOMS)]
            guest = numbers.guest(5) if step % 2 else numbers.kept_guest(room, 5)
            told = make(guest, room, 5)
            self.assertEqual(told, made_otherwise(guest, room, 5))
            plans[told[0][2:4]] = True
        self.assertGreater(len(plans), 8)

    def test_what_each_place_holds(self):
        numbers = Numbers(72)
        for step in range(60):
            guest = numbers.guest(5)
            plan, code, places = make(guest, ROOM, 5)
            self.assertEqual(
                list(places), [(i, at) for i, block in enumerate(guest) for at in range(len(block))],
            )
            for (i, at), place in places.items():
                instruction = guest[i][at]
                if instruction[0] in THREE_BOXES + ("put", "more", "gate", "stop"):
                    words = words_of(instruction)
                    self.assertEqual(code[place:place + len(words)], words)


if __name__ == "__main__":
    unittest.main()
