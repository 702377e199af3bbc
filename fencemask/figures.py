"""Numbers as they are written in texts: by figures, each in one way alone."""

FIGURES = "0123456789"


def are_figures(piece):
    # The length is asked first, so no piece becomes a number that Python won't read.
    if len(piece) < 1 or len(piece) > 10:
        return False
    for sign in piece:
        if sign not in FIGURES:
            return False
    return piece == "0" or not piece.startswith("0")


def read_number(piece):
    """The whole number that a piece of text tells, or None where it is none."""
    if not piece.startswith("-"):
        return int(piece) if are_figures(piece) else None
    figures = piece[1:]
    if figures == "0" or not are_figures(figures):
        return None
    return -int(figures)
