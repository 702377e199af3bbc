"""The reader: a guest out of its text."""

from fencemask.code import FIELDS
from fencemask.errors import NoText
from fencemask.figures import read_number
from fencemask.guests import check_guest, is_guest_box, is_guest_sort


def written_fields(sort):
    # A put's value has a word of its own in code, so the fields of the first word lack it.
    if sort == "put":
        return ("a", "v")
    return FIELDS[sort]


def is_within_bounds(field, number):
    if field == "v":
        return 0 <= number and number < 2 ** 32
    if field == "move":
        return -(2 ** 17) <= number and number < 2 ** 17
    if field == "n":
        return 0 <= number and number < 2 ** 18
    return is_guest_box(number)


def read_instruction(row):
    """The instruction that a row tells, or None where it tells none."""
    # Parted at each blank: two of them leave an empty piece, which is no number.
    pieces = row.split(" ")
    sort = pieces[0]
    if not is_guest_sort(sort):
        return None
    fields = written_fields(sort)
    if len(pieces) != len(fields) + 1:
        return None
    numbers = []
    for field, piece in zip(fields, pieces[1:]):
        number = read_number(piece)
        if number is None or not is_within_bounds(field, number):
            return None
        numbers.append(number)
    return tuple([sort] + numbers)


def bare_row(row):
    return row.partition(";")[0].strip(" ")


def take_row(blocks, row, line):
    due = len(blocks)
    if row == f"block {due}":
        blocks.append([])
    else:
        instruction = read_instruction(row)
        if instruction is None or due == 0:
            raise NoText(line)
        blocks[due - 1].append(instruction)


def read_blocks(text):
    """The blocks that a text tells, be they a guest or not."""
    blocks = []
    rows = text.split("\n")
    for line, row in enumerate(rows, start=1):
        bare = bare_row(row)
        if bare != "":
            take_row(blocks, bare, line)
    if len(blocks) == 0:
        raise NoText(len(rows) + 1)
    return tuple([tuple(block) for block in blocks])


def read_guest(text):
    guest = read_blocks(text)
    check_guest(guest, 16)
    return guest
