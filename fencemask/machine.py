"""The machine: it does any words, whoever made them."""

from fencemask.bits import power_of_two, rest
from fencemask.code import instruction_at, length_of
from fencemask.results import aim_value, fit_value, joined_value


def in_room(plan, place):
    return plan[1] <= place and place < plan[1] + power_of_two(plan[0])


class Machine:
    def __init__(self, plan, code, stand, replies):
        self.plan = plan
        self.code = code
        self.place = stand[0]
        self.boxes = list(stand[1])
        # What was handed in stays as it was, so what is written goes into a copy.
        self.memory = dict(stand[2])
        self.replies = replies
        self.rows = []
        self.turns = 0

    def stand(self):
        return (self.place, tuple(self.boxes), dict(self.memory))

    def run_on(self, most):
        end = None
        while end is None:
            instruction = instruction_at(self.code, self.place)
            # A lost place goes ahead of the turns: where no instruction is, none is begun.
            if instruction is None:
                return ("lost",)
            if self.turns >= most:
                return ("spent",)
            self.turns = self.turns + 1
            end = self.do(instruction)
        return end

    def do(self, instruction):
        """The run's end, or None where it goes on; the place stays where it ends."""
        sort = instruction[0]
        if sort == "stop":
            return ("stopped",)
        if sort == "gate":
            return self.do_gate(instruction)
        if sort == "load" or sort == "store":
            return self.do_reach(instruction)
        if sort == "jump" or sort == "jumpif" or sort == "through":
            self.place = self.place_ahead(instruction)
            return None
        self.boxes[instruction[1]] = self.made_value(instruction)
        self.go_behind(instruction)
        return None

    def go_behind(self, instruction):
        self.place = self.place + length_of(instruction)

    def place_ahead(self, instruction):
        if instruction[0] == "jump":
            return instruction[1]
        if instruction[0] == "through":
            return self.boxes[instruction[1]]
        if self.boxes[instruction[1]] != 0:
            return instruction[2]
        return self.place + 1

    def made_value(self, instruction):
        sort = instruction[0]
        if sort == "put":
            return instruction[2]
        b = self.boxes[instruction[2]]
        if sort == "more":
            return rest(b + instruction[3], 32)
        if sort == "fit":
            return fit_value(self.plan, b)
        if sort == "aim":
            return aim_value(self.plan, b)
        return joined_value(sort, b, self.boxes[instruction[3]])

    def do_reach(self, instruction):
        a = instruction[1]
        reached = rest(self.boxes[instruction[2]] + instruction[3], 32)
        if not in_room(self.plan, reached):
            return ("beyond", reached)
        if instruction[0] == "load":
            self.boxes[a] = self.memory.get(reached, 0)
        else:
            self.memory[reached] = self.boxes[a]
        self.go_behind(instruction)
        return None

    def do_gate(self, instruction):
        n = instruction[1]
        if n >= self.plan[4]:
            return ("lost",)
        # Each gate that was kept before took a reply, so the rows tell how many are used.
        used = len(self.rows)
        self.rows.append((n, tuple(self.boxes), dict(self.memory)))
        if used >= len(self.replies):
            return ("asks", n)
        reply = self.replies[used]
        self.boxes = list(reply[0]) + [self.boxes[7]]
        self.memory.update(reply[1])
        self.go_behind(instruction)
        return None


def run(plan, code, stand, replies, most):
    machine = Machine(plan, code, stand, replies)
    end = machine.run_on(most)
    return (end, machine.stand(), machine.rows, machine.turns)
