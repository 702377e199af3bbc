"""What several tests need: words of instructions, guests, and numbers that look like chance but never change."""

from fencemask.code import words_of

W = 2 ** 32
TOP = W - 1
ALL = (0, TOP, 0)
THREE_BOXES = ("add", "sub", "and", "or", "xor", "less", "left", "right")
MOVES = ("more", "load", "store")
LAST = ("stop", "jump", "through")
STOP = ("stop",)
# A guest's text in which each sort stands, and what it tells.
SAMPLE = "\n".join((
    "block 0", "put 1 77", "add 0 1 2", "sub 0 1 2", "and 0 1 2", "or 0 1 2", "xor 0 1 2", "less 0 1 2",
    "left 0 1 2", "right 0 1 2", "more 0 1 -5", "load 0 1 4", "store 0 1 4", "jump 2",
    "block 1", "jumpif 0 2", "through 3", "block 2", "gate 1", "stop",
))
GUEST = (
    (
        ("put", 1, 77), ("add", 0, 1, 2), ("sub", 0, 1, 2), ("and", 0, 1, 2), ("or", 0, 1, 2), ("xor", 0, 1, 2),
        ("less", 0, 1, 2), ("left", 0, 1, 2), ("right", 0, 1, 2), ("more", 0, 1, -5), ("load", 0, 1, 4),
        ("store", 0, 1, 4), ("jump", 2),
    ),
    (("jumpif", 0, 2), ("through", 3)),
    (("gate", 1), STOP),
)


def multiples(z):
    return (0, W - 2 ** z, z)


def code_of(*instructions):
    return [word for instruction in instructions for word in words_of(instruction)]


def filled(instructions, count):
    """The words of the instructions, and stops behind up to the count."""
    code = code_of(*instructions)
    return code + [0] * (count - len(code))


def guest_rows():
    """Pairs of an instruction that may stand in a guest of 16 blocks with 16 gates, and its row of text."""
    pairs = [(STOP, "stop")]
    for a, b, c in ((0, 0, 0), (5, 5, 5), (5, 0, 0), (0, 5, 0), (0, 0, 5), (1, 2, 3), (4, 3, 2)):
        pairs.extend(((sort, a, b, c), f"{sort} {a} {b} {c}") for sort in THREE_BOXES)
    for a, v in ((0, 0), (5, TOP), (1, 77), (2, 1), (3, 2 ** 31), (4, 10)):
        pairs.append((("put", a, v), f"put {a} {v}"))
    for a, b in ((0, 0), (5, 5), (5, 0), (0, 5), (1, 4)):
        for n in (-131072, -131071, -5, -1, 0, 1, 4, 131070, 131071):
            pairs.extend(((sort, a, b, n), f"{sort} {a} {b} {n}") for sort in MOVES)
    for n in (0, 1, 14, 15):
        pairs.extend(((("jump", n), f"jump {n}"), (("gate", n), f"gate {n}")))
        pairs.extend((("jumpif", a, n), f"jumpif {a} {n}") for a in (0, 3, 5))
    pairs.extend((("through", box), f"through {box}") for box in range(6))
    return pairs


def guest_with(instruction, count=16):
    """A guest of so many blocks, in the first of which the instruction stands, at its end if it must."""
    first = (instruction,) if instruction[0] in LAST else (instruction, STOP)
    return (first,) + ((STOP,),) * (count - 1)


def joined(sort, b, c):
    """What the sort makes of two values, told otherwise than the program does it: bit by bit."""
    if sort == "less":
        return int(c - b > 0)
    b_bits, c_bits = f"{b:032b}", f"{c:032b}"
    if sort == "left":
        return int((b_bits + "0" * (c % 32))[-32:], 2)
    if sort == "right":
        return int(("0" * (c % 32) + b_bits)[:32], 2)
    if sort in ("and", "or", "xor"):
        ones = {"and": ("11",), "or": ("01", "10", "11"), "xor": ("01", "10")}[sort]
        return int("".join("1" if x + y in ones else "0" for x, y in zip(b_bits, c_bits)), 2)
    made = b + c if sort == "add" else b - c
    return made + W if made < 0 else made - W if made >= W else made


class Numbers:
    def __init__(self, seed):
        self.state = seed * 2 + 1

    def below(self, end):
        self.state = (self.state * 6364136223846793005 + 1442695040888963407) % 2 ** 64
        return (self.state >> 24) % end

    def pick(self, things):
        return things[self.below(len(things))]

    def value(self):
        """A value, often a small one, one near a power of two, or near the last."""
        sort = self.below(5)
        if sort == 0:
            return self.below(9)
        if sort == 1:
            return (2 ** self.below(33) + self.below(5) - 2) % W
        if sort == 2:
            return TOP - self.below(9)
        if sort == 3:
            return self.below(2048)
        return self.below(W)

    def values(self, count):
        return tuple(self.value() for step in range(count))

    def guest(self, gates=16):
        """A guest within all bounds, of few blocks most often."""
        count = self.pick((1, 2, 3, 4, 16))
        return tuple(self.guest_block(count, gates) for block in range(count))

    def guest_block(self, count, gates):
        length = self.pick((1, 2, 3, 4, 5, 24))
        return tuple(self.guest_step(count, gates) for step in range(length - 1)) + (self.guest_end(count),)

    def guest_step(self, count, gates):
        a, b, c = self.below(6), self.below(6), self.below(6)
        moved = self.pick((0, 1, -1, 4, self.below(2 ** 18) - 2 ** 17))
        choices = [
            ("put", a, self.value()), (self.pick(THREE_BOXES), a, b, c), (self.pick(MOVES), a, b, moved),
            ("jumpif", a, self.below(count)),
        ]
        if gates > 0:
            choices.append(("gate", self.below(gates)))
        return self.pick(choices)

    def guest_end(self, count):
        return self.pick((STOP, ("jump", self.below(count)), ("through", self.below(6))))
