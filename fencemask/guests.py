"""Guests: code in blocks, as it is handed in, and what may stand in it."""

from fencemask.code import FIELDS
from fencemask.errors import NoGuest
from fencemask.results import LAST_SORTS


def is_guest_sort(sort):
    # Masks are the maker's alone.
    return sort in FIELDS and sort != "fit" and sort != "aim"


def is_guest_box(number):
    # Box 6 is kept for the masks, box 7 is the host's.
    return 0 <= number and number <= 5


def has_guest_boxes(instruction):
    for field, number in zip(FIELDS[instruction[0]], instruction[1:]):
        if field in ("a", "b", "c") and not is_guest_box(number):
            return False
    return True


def has_known_number(instruction, count, gates):
    """Whether a jump's block is one of so many, and a gate one of so many; others have none to be known."""
    sort = instruction[0]
    if sort == "jump" or sort == "jumpif":
        return 0 <= instruction[-1] and instruction[-1] < count
    if sort == "gate":
        return instruction[1] < gates
    return True


def may_stand(instruction, count, gates):
    if not is_guest_sort(instruction[0]):
        return False
    return has_guest_boxes(instruction) and has_known_number(instruction, count, gates)


def check_block(guest, number, gates):
    block = guest[number]
    if len(block) == 0:
        raise NoGuest(number, -1)
    for at, instruction in enumerate(block):
        is_last = at == len(block) - 1
        if (instruction[0] in LAST_SORTS) != is_last or not may_stand(instruction, len(guest), gates):
            raise NoGuest(number, at)


def check_guest(guest, gates=16):
    for number in range(len(guest)):
        check_block(guest, number, gates)
