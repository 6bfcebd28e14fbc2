"""Integers and FRACTIONS in texts, however great."""

from earstogether.kinds import is_fraction

# Python refuses to write or read integers of some thousand figures at once,
# and the bound can be set down to 640; so all is done by pieces below that.
FIGURES = 512
PIECE = (10 ** 64) ** 8


def number_text(number):
    if number < 0:
        return "-" + figures_of(-number)
    return figures_of(number)


def figures_of(number):
    if number < PIECE:
        return str(number)
    powers = [PIECE]
    while powers[-1] <= number:
        powers.append(powers[-1] * powers[-1])
    parts = [number]
    for power in reversed(powers):
        parts = [piece for part in parts for piece in divmod(part, power)]
    return "".join([str(part).zfill(FIGURES) for part in parts]).lstrip("0")


def is_number_text(text):
    figures = text[1:] if text.startswith("-") else text
    if not figures.isascii() or not figures.isdigit():
        return False
    return text == "0" or not figures.startswith("0")


def read_number(text):
    if text.startswith("-"):
        return -read_figures(text[1:])
    return read_figures(text)


def read_figures(figures):
    ends = range(len(figures), 0, -FIGURES)
    parts = [int(figures[max(0, end - FIGURES):end]) for end in ends]
    power = PIECE
    while len(parts) > 1:
        if len(parts) % 2 == 1:
            parts.append(0)
        parts = [parts[k] + power * parts[k + 1] for k in range(0, len(parts), 2)]
        power = power * power
    return parts[0]


def fraction_text(fraction):
    top, bottom = fraction
    if bottom == 1:
        return number_text(top)
    return number_text(top) + "/" + number_text(bottom)


def read_fraction(text):
    """The FRACTION of this text; None if it is that of none."""
    top, line, bottom = text.partition("/")
    if not is_number_text(top):
        return None
    if line == "":
        return (read_number(top), 1)
    if not is_number_text(bottom):
        return None
    fraction = (read_number(top), read_number(bottom))
    return fraction if fraction[1] > 1 and is_fraction(fraction) else None
