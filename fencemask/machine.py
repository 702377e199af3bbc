"""The machine: it does any words, whoever made them."""

from fencemask.bits import power_of_two, rest
from fencemask.code import instruction_at, length_of
from fencemask.results import made_value


def in_room(plan, place):
    return plan[1] <= place and place < plan[1] + power_of_two(plan[0])


# What a run holds but its place: places are of words here, and of blocks where a guest runs plainly.
class Holding:
    def __init__(self, plan, gates, boxes, memory, replies):
        self.plan = plan
        self.gates = gates
        self.boxes = list(boxes)
        # What was handed in stays as it was, so what is written goes into a copy.
        self.memory = dict(memory)
        self.replies = replies
        self.rows = []

    def carry_out(self, instruction):
        """Does what neither stops nor jumps; the run's end, or None where it goes on behind."""
        sort = instruction[0]
        if sort == "gate":
            return self.ask(instruction[1])
        if sort == "load" or sort == "store":
            return self.reach(instruction)
        self.boxes[instruction[1]] = made_value(self.plan, instruction, self.boxes)
        return None

    def reach(self, instruction):
        a = instruction[1]
        reached = rest(self.boxes[instruction[2]] + instruction[3], 32)
        if not in_room(self.plan, reached):
            return ("beyond", reached)
        if instruction[0] == "load":
            self.boxes[a] = self.memory.get(reached, 0)
        else:
            self.memory[reached] = self.boxes[a]
        return None

    def ask(self, n):
        if n >= self.gates:
            return ("lost",)
        # Each gate that was kept before took a reply, so the rows tell how many are used.
        used = len(self.rows)
        self.rows.append((n, tuple(self.boxes), dict(self.memory)))
        if used >= len(self.replies):
            return ("asks", n)
        reply = self.replies[used]
        # A plain run has fewer boxes than a reply has values, and no box of the host's.
        self.boxes = list(reply[0][:len(self.boxes)]) + self.boxes[7:]
        self.memory.update(reply[1])
        return None


class Machine:
    def __init__(self, code, place, holding):
        self.code = code
        self.place = place
        self.holding = holding
        self.turns = 0

    def run_on(self, most):
        end = None
        while end is None:
            instruction = instruction_at(self.code, self.place)
            # A lost place goes ahead of the turns: where no instruction is, none is begun.
            if instruction is None:
                return ("lost",)
            if self.turns >= most:
                return ("spent",)
            self.turns = self.turns + 1
            end = self.do(instruction)
        return end

    def do(self, instruction):
        """The run's end, or None where it goes on; the place stays where it ends."""
        sort = instruction[0]
        if sort == "stop":
            return ("stopped",)
        if sort == "jump" or sort == "jumpif" or sort == "through":
            self.place = self.place_ahead(instruction)
            return None
        end = self.holding.carry_out(instruction)
        if end is None:
            self.place = self.place + length_of(instruction)
        return end

    def place_ahead(self, instruction):
        if instruction[0] == "jump":
            return instruction[1]
        held = self.holding.boxes[instruction[1]]
        if instruction[0] == "through":
            return held
        return instruction[2] if held != 0 else self.place + 1


def run(plan, code, stand, replies, most):
    holding = Holding(plan, plan[4], stand[1], stand[2], replies)
    machine = Machine(code, stand[0], holding)
    end = machine.run_on(most)
    behind = (machine.place, tuple(holding.boxes), holding.memory)
    return (end, behind, holding.rows, machine.turns)
