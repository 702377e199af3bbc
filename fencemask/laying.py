"""Laying: groups of instructions into bundles, and blocks into code."""

from fencemask.bits import power_of_two
from fencemask.code import length_of, words_of
from fencemask.errors import TooLong


# A block's groups, one behind the other; their jumps name blocks, since no block has its place yet.
class LaidBlock:
    def __init__(self):
        self.instructions = []
        self.begins = []
        self.length = 0

    def is_at_bundle(self):
        return self.length % 8 == 0

    def has_space(self, group):
        return self.length % 8 + sum([length_of(instruction) for instruction in group]) <= 8

    def take(self, instruction):
        self.instructions.append(instruction)
        self.length = self.length + length_of(instruction)

    def take_group(self, group):
        self.begins.append(self.length)
        for instruction in group:
            self.take(instruction)

    def fill_bundle(self):
        while not self.is_at_bundle():
            self.take(("more", 0, 0, 0))


def least_bits(count):
    bits = 0
    while power_of_two(bits) < count:
        bits = bits + 1
    return bits


def bundles_of(block):
    return (block.length + 7) // 8


def placed(instruction, size):
    if instruction[0] == "jump" or instruction[0] == "jumpif":
        return instruction[:-1] + (instruction[-1] * size,)
    return instruction


def stops(count):
    return words_of(("stop",)) * count


def block_words(block, size):
    words = []
    for instruction in block.instructions:
        words.extend(words_of(placed(instruction, size)))
    return words + stops(size - len(words))


def places_of(blocks, size):
    places = {}
    for number, block in enumerate(blocks):
        for at, begin in enumerate(block.begins):
            places[(number, at)] = number * size + begin
    return places


def code_of_blocks(blocks, room, gates):
    """The plan, the words and the places of laid blocks, each of as many words as the longest one needs."""
    m = least_bits(len(blocks))
    s = least_bits(max([bundles_of(block) for block in blocks]))
    if m + s > 7:
        raise TooLong()
    size = 8 * power_of_two(s)
    code = []
    for block in blocks:
        code.extend(block_words(block, size))
    code.extend(stops(power_of_two(m) * size - len(code)))
    return ((room[0], room[1], m, s, gates), code, places_of(blocks, size))
