"""Plain runs: what a guest does by itself, block by block, without masks."""

from fencemask.machine import Holding


class PlainRun:
    def __init__(self, guest, block, holding):
        self.guest = guest
        self.place = (block, 0)
        self.holding = holding
        self.trail = []

    def go_on(self, most):
        end = None
        while end is None:
            # Each instruction that is begun takes a turn, so the trail tells how many are taken.
            if len(self.trail) >= most:
                return ("spent",)
            self.trail.append(self.place)
            end = self.begin(self.guest[self.place[0]][self.place[1]])
        return end

    def begin(self, instruction):
        """The run's end, or None where it goes on; the place stays where it ends."""
        sort = instruction[0]
        if sort == "stop":
            return ("stopped",)
        if sort == "jump" or sort == "jumpif" or sort == "through":
            return self.go_to(self.place_due(instruction))
        end = self.holding.carry_out(instruction)
        if end is None:
            return self.go_to(self.place_behind())
        return ("leaves",) if end[0] == "beyond" else end

    def place_behind(self):
        return (self.place[0], self.place[1] + 1)

    def place_due(self, instruction):
        if instruction[0] == "jump":
            return (instruction[1], 0)
        held = self.holding.boxes[instruction[1]]
        if instruction[0] == "through":
            return (held, 0)
        return (instruction[2], 0) if held != 0 else self.place_behind()

    def go_to(self, place):
        # A through's box may hold any value, and not each is the number of a block.
        if place[0] >= len(self.guest):
            return ("leaves",)
        self.place = place
        return None


def run_plainly(guest, room, gates, block, boxes, memory, replies, most):
    holding = Holding(room, gates, boxes, memory, replies)
    plain = PlainRun(guest, block, holding)
    end = plain.go_on(most)
    return (end, plain.place, tuple(holding.boxes), holding.memory, holding.rows, plain.trail)
