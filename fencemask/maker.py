"""The maker: code of a guest, with a mask ahead of each load, store and through."""

from fencemask.laying import LaidBlock, code_of_blocks


def is_access(instruction):
    return instruction[0] == "load" or instruction[0] == "store"


def access_by_mask(instruction):
    return (instruction[0], instruction[1], 6, 0)


def masked_group(instruction):
    if instruction[0] == "through":
        return (("aim", 6, instruction[1]), ("through", 6))
    if not is_access(instruction):
        return (instruction,)
    b = instruction[2]
    n = instruction[3]
    if n == 0:
        return (("fit", 6, b), access_by_mask(instruction))
    return (("more", 6, b, n), ("fit", 6, 6), access_by_mask(instruction))


def masked_block(block):
    laid = LaidBlock()
    for instruction in block:
        group = masked_group(instruction)
        if not laid.has_space(group):
            laid.fill_bundle()
        laid.take_group(group)
    return laid


def make(guest, room, gates):
    return code_of_blocks([masked_block(block) for block in guest], room, gates)
