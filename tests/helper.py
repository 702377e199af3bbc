"""What several tests need: words of instructions, and numbers that look like chance but never change."""

from fencemask.code import words_of

W = 2 ** 32
TOP = W - 1
ALL = (0, TOP, 0)
THREE_BOXES = ("add", "sub", "and", "or", "xor", "less", "left", "right")


def multiples(z):
    return (0, W - 2 ** z, z)


def code_of(*instructions):
    return [word for instruction in instructions for word in words_of(instruction)]


def filled(instructions, count):
    """The words of the instructions, and stops behind up to the count."""
    code = code_of(*instructions)
    return code + [0] * (count - len(code))


def joined(sort, b, c):
    """What the sort makes of two values, told otherwise than the program does it: bit by bit."""
    if sort == "less":
        return int(c - b > 0)
    b_bits, c_bits = f"{b:032b}", f"{c:032b}"
    if sort == "left":
        return int((b_bits + "0" * (c % 32))[-32:], 2)
    if sort == "right":
        return int(("0" * (c % 32) + b_bits)[:32], 2)
    if sort in ("and", "or", "xor"):
        ones = {"and": ("11",), "or": ("01", "10", "11"), "xor": ("01", "10")}[sort]
        return int("".join("1" if x + y in ones else "0" for x, y in zip(b_bits, c_bits)), 2)
    made = b + c if sort == "add" else b - c
    return made + W if made < 0 else made - W if made >= W else made


class Numbers:
    def __init__(self, seed):
        self.state = seed * 2 + 1

    def below(self, end):
        self.state = (self.state * 6364136223846793005 + 1442695040888963407) % 2 ** 64
        return (self.state >> 24) % end

    def pick(self, things):
        return things[self.below(len(things))]

    def value(self):
        """A value, often a small one, one near a power of two, or near the last."""
        sort = self.below(5)
        if sort == 0:
            return self.below(9)
        if sort == 1:
            return (2 ** self.below(33) + self.below(5) - 2) % W
        if sort == 2:
            return TOP - self.below(9)
        if sort == 3:
            return self.below(2048)
        return self.below(W)

    def values(self, count):
        return tuple(self.value() for step in range(count))
