"""Determinants, by those of fewer lines."""

from earstogether.wholerows import coming_to, row_over, times_number, whole_rows


def determinant_of(matrix):
    """The determinant of a MATRIX of as many lines as columns."""
    bottom, found = 1, {(): (0, [1])}
    for line in matrix:
        low, wholes = whole_rows(line)
        bottom = bottom * low
        found = with_line(found, wholes)
    return row_over(found.get(tuple(range(len(matrix))), (0, [])), bottom)


def with_line(found, line):
    """The determinants of all columns, so many at once, with one line more; those of nothing left out.

    Each is the sum over its columns of what the line has there times the
    determinant of the others, its sign changed for each of them behind.
    """
    ones, others = {}, {}
    for columns in found:
        for k, entry in enumerate(line):
            if entry[1] and k not in columns:
                wider = tuple(sorted([*columns, k]))
                behind = len([column for column in columns if column > k])
                ones.setdefault(wider, []).append(times_number(entry, -1 if behind & 1 else 1))
                others.setdefault(wider, []).append(found[columns])
    told = {wider: coming_to(ones[wider], others[wider]) for wider in ones}
    return {wider: told[wider] for wider in told if told[wider][1]}
