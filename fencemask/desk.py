"""The desk: texts in, texts out. It makes, thins, checks and runs."""

from fencemask.bits import power_of_two
from fencemask.checker import check
from fencemask.code import code_text, read_code
from fencemask.errors import NoText, NotWithin
from fencemask.figures import read_number
from fencemask.guests import check_guest
from fencemask.machine import run
from fencemask.maker import make
from fencemask.reader import read_blocks
from fencemask.thinner import thin


def row_of(pieces):
    return " ".join([str(piece) for piece in pieces])


def fenced_text(plan, code):
    return row_of(("plan",) + plan) + "\n" + code_text(code)


def guest_for(text, gates):
    # Checked with the told gates alone: the first fault by them may stand ahead of the first by sixteen.
    guest = read_blocks(text)
    check_guest(guest, gates)
    return guest


def made_text(text, k, base, gates):
    made = make(guest_for(text, gates), (k, base), gates)
    return fenced_text(made[0], made[1])


def thinned_text(text, k, base, gates):
    thinned = thin(guest_for(text, gates), (k, base), gates)
    return fenced_text(thinned[0], thinned[1])


def is_room(k, base):
    # The bound on k is asked first, so no power is made that is beyond all use.
    return k <= 20 and base % power_of_two(k) == 0 and base + power_of_two(k) <= 2 ** 32


def is_plan(plan):
    return min(plan) >= 0 and is_room(plan[0], plan[1]) and plan[2] + plan[3] <= 7 and plan[4] <= 16


def read_plan(row):
    """The plan that a row tells, or None where it tells none."""
    pieces = row.split(" ")
    if len(pieces) != 6 or pieces[0] != "plan":
        return None
    numbers = [read_number(piece) for piece in pieces[1:]]
    if None in numbers or not is_plan(numbers):
        return None
    return tuple(numbers)


def read_fenced(text):
    """A tuple of the plan and the words that a text tells."""
    parts = text.partition("\n")
    plan = read_plan(parts[0])
    if plan is None:
        raise NoText(1)
    # The plan's row is left empty but not out, so that rows keep their numbers of the whole text.
    return (plan, read_code(parts[1] + parts[2]))


def checked_text(text):
    fenced = read_fenced(text)
    try:
        check(fenced[0], fenced[1])
    except NotWithin as error:
        return row_of((error.at, error.why))
    return "within"


def run_text(text, block, turns):
    fenced = read_fenced(text)
    begin = block * 8 * power_of_two(fenced[0][3])
    told = run(fenced[0], fenced[1], (begin, (0,) * 8, {}), [], turns)
    return row_of(told[0] + told[1][1])
