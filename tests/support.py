"""What several tests need: rows reckoned anew, in another way, and refusals."""

from fractions import Fraction


def numbers(row):
    """The worths of a ROW that are not 0, by moments."""
    first, worths = row
    return {first + k: Fraction(*worth) for k, worth in enumerate(worths) if worth[0] != 0}


def row_from(table):
    """The ROW with these worths by moments, in its one form."""
    moments = [moment for moment in table if table[moment] != 0]
    if not moments:
        return (0, ())
    low, high = min(moments), max(moments)
    worths = [Fraction(table.get(moment, 0)) for moment in range(low, high + 1)]
    return (low, tuple([(worth.numerator, worth.denominator) for worth in worths]))


def sum_of(one, other):
    left, right = numbers(one), numbers(other)
    return row_from({m: left.get(m, 0) + right.get(m, 0) for m in left.keys() | right.keys()})


def product_of(one, other):
    table = {}
    for moment, worth in numbers(one).items():
        for place, by in numbers(other).items():
            table[moment + place] = table.get(moment + place, 0) + worth * by
    return row_from(table)


def whole_row(first, *worths):
    """The ROW with these integers or Fractions from first on."""
    return row_from({first + k: Fraction(worth) for k, worth in enumerate(worths)})


def random_row(source, most=8, size=6, bottoms=(1, 1, 1, 2, 3, 4)):
    """A ROW, often with holes, sometimes that of nothing."""
    tops = [source.choice((0, source.randint(-size, size))) for _ in range(source.randint(0, most))]
    first = source.randint(-9, 9)
    return row_from({first + k: Fraction(top, source.choice(bottoms)) for k, top in enumerate(tops)})


def random_something(source, most=8, size=6, bottoms=(1, 1, 1, 2, 3, 4)):
    """A ROW that is not that of nothing."""
    row = random_row(source, most, size, bottoms)
    while not row[1]:
        row = random_row(source, most, size, bottoms)
    return row


def is_in_form(row):
    """Whether this is a ROW in its one form, down to the kinds of its numbers."""
    if type(row) is not tuple or len(row) != 2 or type(row[0]) is not int or type(row[1]) is not tuple:
        return False
    for worth in row[1]:
        if type(worth) is not tuple or [type(number) for number in worth] != [int, int]:
            return False
    return repr(row_from(numbers(row))) == repr(row)


class Thing:
    """An object of no kind that the package knows."""


NO_INTEGERS = (True, False, None, "3", "", (3,), [3], (3, 1), {3: 3}, Thing())

NO_FRACTIONS = (
    True, None, 1, "1/2", (), (1,), (1, 2, 3), [1, 2], ((1, 2),), (2, 4), (-3, 3), (1, 0), (0, 0), (1, -2), (0, -1),
    (0, 2), (True, 1), (1, True), (None, 1), (1, None), ("1", 1), ((1, 1), 1), {1: 2}, Thing(),
)

NO_ROWS = (
    True, False, None, 0, 7, "", "-", "0: 1", (), (0,), (0, (), ()), (0, ((1, 1),), 0), [0, ()], [0, ((1, 1),)],
    (0, []), (0, [(1, 1)]), (0, None), (0, (1, 1)), (0, 1), (True, ((1, 1),)), (False, ()), (None, ()), ("0", ()),
    ((0, 1), ((1, 1),)), (1, ()), (-1, ()), (0, ((0, 1),)), (0, ((0, 1), (1, 1))), (0, ((1, 1), (0, 1))),
    (3, ((0, 1), (1, 1), (0, 1))), {0: ((1, 1),)}, Thing(),
) + tuple([(0, ((1, 1), wrong, (1, 1))) for wrong in NO_FRACTIONS]) + tuple([(0, (wrong,)) for wrong in NO_FRACTIONS])


def assert_refused(test, error, value, look, *arguments, **named):
    """That look raises just this error, with the very value."""
    try:
        told = look(*arguments, **named)
    except ValueError as caught:
        test.assertIs(type(caught), error, (look.__name__, arguments))
        test.assertIs(caught.value, value, (look.__name__, arguments))
    else:
        test.fail((look.__name__, arguments, told))
