"""Tables: lines of as many things each."""


def transposed(lines):
    return tuple([tuple(line) for line in zip(*lines)])


def line_with(lines, place):
    """The number of the first line whose number at this place isn't 0; None if there is none."""
    for at, line in enumerate(lines):
        if line[place] != 0:
            return at
    return None
