"""What several tests need: words of instructions, guests, and numbers that look like chance but never change."""

import unittest

from fencemask.checker import check, spans_ahead
from fencemask.code import instruction_at, words_of
from fencemask.errors import NotWithin
from fencemask.machine import run

W = 2 ** 32
TOP = W - 1
ALL = (0, TOP, 0)
THREE_BOXES = ("add", "sub", "and", "or", "xor", "less", "left", "right")
MOVES = ("more", "load", "store")
LAST = ("stop", "jump", "through")
STOP = ("stop",)
# A guest's text in which each sort stands, and what it tells.
SAMPLE = "\n".join((
    "block 0", "put 1 77", "add 0 1 2", "sub 0 1 2", "and 0 1 2", "or 0 1 2", "xor 0 1 2", "less 0 1 2",
    "left 0 1 2", "right 0 1 2", "more 0 1 -5", "load 0 1 4", "store 0 1 4", "jump 2",
    "block 1", "jumpif 0 2", "through 3", "block 2", "gate 1", "stop",
))
GUEST = (
    (
        ("put", 1, 77), ("add", 0, 1, 2), ("sub", 0, 1, 2), ("and", 0, 1, 2), ("or", 0, 1, 2), ("xor", 0, 1, 2),
        ("less", 0, 1, 2), ("left", 0, 1, 2), ("right", 0, 1, 2), ("more", 0, 1, -5), ("load", 0, 1, 4),
        ("store", 0, 1, 4), ("jump", 2),
    ),
    (("jumpif", 0, 2), ("through", 3)),
    (("gate", 1), STOP),
)


ROOMS = (
    (4, 32), (0, 5), (20, W - 2 ** 20), (3, 0), (20, 2 ** 20), (6, 2 ** 31), (0, TOP), (1, W - 2), (0, 0), (10, 0),
)


def multiples(z):
    return (0, W - 2 ** z, z)


def code_of(*instructions):
    return [word for instruction in instructions for word in words_of(instruction)]


def filled(instructions, count):
    """The words of the instructions, and stops behind up to the count."""
    code = code_of(*instructions)
    return code + [0] * (count - len(code))


def with_box(boxes, at, value):
    return boxes[:at] + (value,) + boxes[at + 1:]


def beyond_room(room, memory):
    return {place: value for place, value in memory.items() if not room[1] <= place < room[1] + 2 ** room[0]}


def guest_rows():
    """Pairs of an instruction that may stand in a guest of 16 blocks with 16 gates, and its row of text."""
    pairs = [(STOP, "stop")]
    for a, b, c in ((0, 0, 0), (5, 5, 5), (5, 0, 0), (0, 5, 0), (0, 0, 5), (1, 2, 3), (4, 3, 2)):
        pairs.extend(((sort, a, b, c), f"{sort} {a} {b} {c}") for sort in THREE_BOXES)
    for a, v in ((0, 0), (5, TOP), (1, 77), (2, 1), (3, 2 ** 31), (4, 10)):
        pairs.append((("put", a, v), f"put {a} {v}"))
    for a, b in ((0, 0), (5, 5), (5, 0), (0, 5), (1, 4)):
        for n in (-131072, -131071, -5, -1, 0, 1, 4, 131070, 131071):
            pairs.extend(((sort, a, b, n), f"{sort} {a} {b} {n}") for sort in MOVES)
    for n in (0, 1, 14, 15):
        pairs.extend(((("jump", n), f"jump {n}"), (("gate", n), f"gate {n}")))
        pairs.extend((("jumpif", a, n), f"jumpif {a} {n}") for a in (0, 3, 5))
    pairs.extend((("through", box), f"through {box}") for box in range(6))
    return pairs


def guest_with(instruction, count=16):
    """A guest of so many blocks, in the first of which the instruction stands, at its end if it must."""
    first = (instruction,) if instruction[0] in LAST else (instruction, STOP)
    return (first,) + ((STOP,),) * (count - 1)


def joined(sort, b, c):
    """What the sort makes of two values, told otherwise than the program does it: bit by bit."""
    if sort == "less":
        return int(c - b > 0)
    b_bits, c_bits = f"{b:032b}", f"{c:032b}"
    if sort == "left":
        return int((b_bits + "0" * (c % 32))[-32:], 2)
    if sort == "right":
        return int(("0" * (c % 32) + b_bits)[:32], 2)
    if sort in ("and", "or", "xor"):
        ones = {"and": ("11",), "or": ("01", "10", "11"), "xor": ("01", "10")}[sort]
        return int("".join("1" if x + y in ones else "0" for x, y in zip(b_bits, c_bits)), 2)
    made = b + c if sort == "add" else b - c
    return made + W if made < 0 else made - W if made >= W else made


def let_by(plan, code):
    try:
        check(plan, code)
    except NotWithin:
        return False
    return True


class Within(unittest.TestCase):
    """What holds of each run of words that are let by."""

    def keeps_within(self, plan, stand, told):
        end, behind, rows, turns = told
        self.assertIn(end[0], ("stopped", "asks", "spent"))
        self.assertEqual(behind[1][7], stand[1][7])
        self.assertEqual(beyond_room(plan, behind[2]), beyond_room(plan, stand[2]))
        for n, boxes, memory in rows:
            self.assertTrue(0 <= n < plan[4])
            self.assertEqual(boxes[7], stand[1][7])
            self.assertEqual(beyond_room(plan, memory), beyond_room(plan, stand[2]))

    def spans_hold(self, spans, stand):
        place, boxes, memory = stand
        self.assertIsNotNone(spans[place], place)
        for value, (lo, hi, z) in zip(boxes, spans[place]):
            self.assertTrue(lo <= value <= hi and value % 2 ** z == 0, (place, boxes, spans[place]))

    def walk(self, plan, code, stand, replies, most):
        """The run turn by turn, with the spans asked for at each place; the sorts that were done."""
        spans = spans_ahead(plan, code)
        whole = run(plan, code, stand, replies, most)
        self.keeps_within(plan, stand, whole)
        done, rows = [], []
        for turn in range(whole[3]):
            self.spans_hold(spans, stand)
            done.append(instruction_at(code, stand[0])[0])
            end, stand, kept, turns = run(plan, code, stand, replies[len(rows):], 1)
            self.assertEqual(turns, 1)
            rows += kept
        self.spans_hold(spans, stand)
        self.assertEqual((end if done else whole[0], stand, rows), whole[:3])
        return done

    def changed_bits_keep_within(self, plan, code, numbers, most):
        """That with any one bit changed the words are refused or keep within; how many were let by, and refused."""
        by, refused = 0, 0
        for bit in range(32 * len(code)):
            changed = list(code)
            changed[bit // 32] ^= 2 ** (bit % 32)
            if not let_by(plan, changed):
                refused += 1
                continue
            by += 1
            for place in range(0, len(code), 8):
                stand = (place, numbers.values(8), numbers.memory(plan))
                self.walk(plan, changed, stand, numbers.replies(plan), most)
        return by, refused


class Numbers:
    def __init__(self, seed):
        self.state = seed * 2 + 1

    def below(self, end):
        self.state = (self.state * 6364136223846793005 + 1442695040888963407) % 2 ** 64
        return (self.state >> 24) % end

    def pick(self, things):
        return things[self.below(len(things))]

    def value(self):
        """A value, often a small one, one near a power of two, or near the last."""
        sort = self.below(5)
        if sort == 0:
            return self.below(9)
        if sort == 1:
            return (2 ** self.below(33) + self.below(5) - 2) % W
        if sort == 2:
            return TOP - self.below(9)
        if sort == 3:
            return self.below(2048)
        return self.below(W)

    def values(self, count):
        return tuple(self.value() for step in range(count))

    def place(self, room):
        """A place of the room, its ends often."""
        return room[1] + self.pick((0, 2 ** room[0] - 1, self.below(2 ** room[0])))

    def memory(self, room):
        """Places of the room, those just beyond it, and any."""
        memory = {self.place(room): self.value() for step in range(6)}
        for beyond in (room[1] - 1, room[1] + 2 ** room[0], self.value()):
            if 0 <= beyond < W:
                memory[beyond] = self.value()
        return memory

    def kept_boxes(self, room):
        """Values for boxes 0 to 5, of which 4 and 5 are places of the room."""
        return self.values(4) + (self.place(room), self.place(room))

    def replies(self, room, kept=False):
        told = []
        for step in range(self.below(6)):
            boxes = self.kept_boxes(room) if kept else self.values(6)
            writes = {self.place(room): self.value() for place in range(self.below(4))}
            told.append((boxes + (self.value(),), writes))
        return told

    def kept_guest(self, room, gates=16):
        """A guest that keeps to its room where boxes 4 and 5 hold places of it at first, and by each reply."""
        count = self.pick((1, 2, 3, 4, 16))
        return tuple(self.kept_block(room, count, gates) for block in range(count))

    def kept_block(self, room, count, gates):
        length = self.pick((0, 1, 4, 9, 15, 22))
        steps = ()
        while len(steps) < length:
            steps += self.kept_steps(room, count, gates)
        block = self.below(count)
        ends = [(STOP,), (("jump", block),), (("put", 3, block), ("through", 3))]
        return steps[:length] + self.pick(ends)

    def kept_steps(self, room, count, gates):
        a, b, any_box, other = self.below(3), self.pick((4, 5)), self.below(6), self.below(6)
        n = self.pick((0, 1, -1, 7, -9, 2 ** 17 - 1, 1 - 2 ** 17))
        reaches = (("load", a, 3, n), ("store", any_box, 3, n), ("load", 3, 3, n), ("store", 3, 3, n))
        choices = [
            (("put", a, self.value()),), ((self.pick(THREE_BOXES), self.below(4), any_box, other),),
            (("more", self.below(4), any_box, n),), (("put", b, self.place(room)),),
            (("load", a, b, 0),), (("store", any_box, b, 0),), (("load", a, b, 0), ("store", any_box, b, 0)),
            (("put", 3, (self.place(room) - n) % W), self.pick(reaches)),
            (("more", 3, b, -n), self.pick(reaches[:2]), self.pick(reaches)),
            # The guest's own mask: by an add the spans tell that it is one, by an or they don't always.
            (
                ("put", 2, 2 ** room[0] - 1), ("and", 3, any_box, 2), ("put", 2, room[1]),
                (self.pick(("or", "add")), 3, 3, 2), self.pick((("load", a, 3, 0), ("store", any_box, 3, 0))),
            ),
            (("jumpif", any_box, self.below(count)),),
        ]
        if gates > 0:
            choices.append((("gate", self.below(gates)),))
        return self.pick(choices)

    def guest(self, gates=16):
        """A guest within all bounds, of few blocks most often."""
        count = self.pick((1, 2, 3, 4, 16))
        return tuple(self.guest_block(count, gates) for block in range(count))

    def guest_block(self, count, gates):
        length = self.pick((1, 2, 3, 4, 5, 24))
        return tuple(self.guest_step(count, gates) for step in range(length - 1)) + (self.guest_end(count),)

    def guest_step(self, count, gates):
        a, b, c = self.below(6), self.below(6), self.below(6)
        moved = self.pick((0, 1, -1, 4, self.below(2 ** 18) - 2 ** 17))
        choices = [
            ("put", a, self.value()), (self.pick(THREE_BOXES), a, b, c), (self.pick(MOVES), a, b, moved),
            ("jumpif", a, self.below(count)),
        ]
        if gates > 0:
            choices.append(("gate", self.below(gates)))
        return self.pick(choices)

    def guest_end(self, count):
        return self.pick((STOP, ("jump", self.below(count)), ("through", self.below(6))))
