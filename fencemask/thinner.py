"""The thinner: code of a guest as the maker's, but without the masks that are needless."""

from fencemask.checker import first_spans, may_reach_out, spans_behind
from fencemask.laying import LaidBlock, code_of_blocks
from fencemask.maker import access_by_mask, is_access, masked_group
from fencemask.results import made_box


# What is known of the boxes from a bundle's begin on: jumps may come there, so nothing from ahead of it holds.
class Known:
    def __init__(self, room):
        # How many blocks and bundles there are isn't known yet, but only a through hangs on it, and that is last.
        self.plan = (room[0], room[1], 0, 0, 0)
        self.spans = first_spans()
        # The b and n whose fitted place box 6 holds, or None.
        self.fitted = None

    def forget(self):
        self.spans = first_spans()
        self.fitted = None

    def thin_group(self, instruction):
        if not is_access(instruction):
            return masked_group(instruction)
        if not may_reach_out(self.plan, instruction, self.spans):
            return (instruction,)
        if self.fitted == instruction[2:]:
            return (access_by_mask(instruction),)
        return masked_group(instruction)

    def learn_group(self, instruction, group):
        for member in group:
            self.spans = spans_behind(self.plan, member, self.spans)
            if member[0] == "fit":
                self.fitted = instruction[2:]
            elif self.is_lost_by(member):
                self.fitted = None

    def is_lost_by(self, member):
        box = made_box(member)
        return member[0] == "gate" or box == 6 or (self.fitted is not None and box == self.fitted[0])


def thinned_block(block, room):
    laid = LaidBlock()
    known = Known(room)
    for instruction in block:
        if not laid.has_space(known.thin_group(instruction)):
            laid.fill_bundle()
        if laid.is_at_bundle():
            known.forget()
        group = known.thin_group(instruction)
        laid.take_group(group)
        known.learn_group(instruction, group)
    return laid


def thin(guest, room, gates):
    return code_of_blocks([thinned_block(block, room) for block in guest], room, gates)
