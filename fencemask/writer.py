"""The writer: a guest's text."""


def instruction_text(instruction):
    return " ".join([str(piece) for piece in instruction])


def guest_text(guest):
    rows = []
    for number, block in enumerate(guest):
        rows.append(f"block {number}")
        rows.extend([instruction_text(instruction) for instruction in block])
    return "\n".join(rows)
