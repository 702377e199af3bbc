"""The checker: it goes once over the words and lets by what can't reach out."""

from fencemask.bits import power_of_two
from fencemask.code import instruction_at, length_of
from fencemask.errors import NotWithin
from fencemask.results import LAST_SORTS, made_box
from fencemask.spans import aim_span, fit_span, joined_span, more_span, single, whole_span


def first_spans():
    return tuple([whole_span()] * 8)


def made_span(plan, instruction, spans):
    sort = instruction[0]
    if sort == "put":
        return single(instruction[2])
    if sort == "load":
        return whole_span()
    b = spans[instruction[2]]
    if sort == "more":
        return more_span(b, instruction[3])
    if sort == "fit":
        return fit_span(plan, b)
    if sort == "aim":
        return aim_span(plan, b)
    return joined_span(sort, b, spans[instruction[3]])


def spans_behind(plan, instruction, spans):
    if instruction[0] == "gate":
        return tuple([whole_span()] * 7 + [spans[7]])
    box = made_box(instruction)
    if box is None:
        return spans
    return spans[:box] + (made_span(plan, instruction, spans),) + spans[box + 1:]


def may_reach_out(plan, instruction, spans):
    span = spans[instruction[2]]
    n = instruction[3]
    base = plan[1]
    return span[0] + n < base or span[1] + n >= base + power_of_two(plan[0])


def is_no_target(place, count):
    return place % 8 != 0 or place >= count


def is_no_way(span, count):
    return span[1] >= count or span[2] < 3


def is_no_word(instruction, at):
    # A put at a bundle's last word would have its second one where jumps may come to.
    return instruction is None or at % 8 + length_of(instruction) > 8


def fault_of(plan, count, instruction, spans):
    """The first reason why an instruction isn't let by, or None; count is the number of words."""
    sort = instruction[0]
    if made_box(instruction) == 7:
        return "host"
    if (sort == "load" or sort == "store") and may_reach_out(plan, instruction, spans):
        return "beyond"
    if (sort == "jump" or sort == "jumpif") and is_no_target(instruction[-1], count):
        return "target"
    if sort == "through" and is_no_way(spans[instruction[1]], count):
        return "way"
    if sort == "gate" and instruction[1] >= plan[4]:
        return "gate"
    return None


def instruction_let_by(plan, code, at, spans):
    instruction = instruction_at(code, at)
    if is_no_word(instruction, at):
        raise NotWithin(at, "word")
    why = fault_of(plan, len(code), instruction, spans)
    if why is not None:
        raise NotWithin(at, why)
    return instruction


def spans_ahead(plan, code):
    if len(code) != 8 * power_of_two(plan[2] + plan[3]):
        raise NotWithin(0, "length")
    told = []
    spans = first_spans()
    sort = ""
    # What is told has one entry a word, so its length is the number of the word that is due.
    while len(told) < len(code):
        if len(told) % 8 == 0:
            spans = first_spans()
        instruction = instruction_let_by(plan, code, len(told), spans)
        sort = instruction[0]
        told.append(spans)
        spans = spans_behind(plan, instruction, spans)
        if length_of(instruction) == 2:
            told.append(None)
    if sort not in LAST_SORTS:
        raise NotWithin(len(code), "end")
    return told


def check(plan, code):
    spans_ahead(plan, code)
