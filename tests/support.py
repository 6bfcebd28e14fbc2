"""What several tests need: rows reckoned anew, in another way, and refusals."""

from fractions import Fraction


def numbers(row):
    """The worths of a ROW that are not 0, by moments."""
    first, worths = row
    return {first + k: Fraction(*worth) for k, worth in enumerate(worths) if worth[0] != 0}


def row_from(table):
    """The ROW with these worths by moments, in its one form."""
    moments = [moment for moment in table if table[moment] != 0]
    if not moments:
        return (0, ())
    low, high = min(moments), max(moments)
    worths = [Fraction(table.get(moment, 0)) for moment in range(low, high + 1)]
    return (low, tuple([(worth.numerator, worth.denominator) for worth in worths]))


def sum_of(one, other):
    left, right = numbers(one), numbers(other)
    return row_from({m: left.get(m, 0) + right.get(m, 0) for m in left.keys() | right.keys()})


def product_of(one, other):
    table = {}
    for moment, worth in numbers(one).items():
        for place, by in numbers(other).items():
            table[moment + place] = table.get(moment + place, 0) + worth * by
    return row_from(table)


def difference_of(one, other):
    return sum_of(one, product_of(other, whole_row(0, -1)))


def later(row, by):
    return row_from({moment + by: worth for moment, worth in numbers(row).items()})


def total_of(rows):
    total = (0, ())
    for row in rows:
        total = sum_of(total, row)
    return total


def come_to(lines, rows):
    """What the lines of a MATRIX and ROWS, one for each column, come to."""
    return tuple([total_of([product_of(one, row) for one, row in zip(line, rows)]) for line in lines])


def columns_of(lines):
    return tuple(zip(*lines))


def goes_into(by, row):
    """Whether row is a multiple of by, reckoned slowly."""
    if not by[1] or not row[1]:
        return not row[1]
    return not rest_slowly([Fraction(*worth) for worth in row[1]], [Fraction(*worth) for worth in by[1]])


def rest_slowly(one, by):
    """The rest of a division of lists of Fractions, without noughts at its end."""
    one = list(one)
    while len(one) >= len(by):
        times_by = one[-1] / by[-1]
        for k in range(1, len(by) + 1):
            one[-k] -= times_by * by[-k]
        one.pop()
    while one and one[-1] == 0:
        one.pop()
    return one


PRIME = 2 ** 61 - 1


def value_at(row, point):
    """The sum of the worths, each times point to the power of its moment, modulo a great prime."""
    total = 0
    for moment, worth in numbers(row).items():
        total += worth.numerator * pow(worth.denominator, -1, PRIME) * pow(point, moment, PRIME)
    return total % PRIME


def brought_down(lines, point):
    """(lines in which each has the first number alone, determinant or 0), of what lines of ROWS are at this point."""
    lines = [[value_at(row, point) for row in line] for line in lines]
    done, determinant = [], 1
    for place in range(len(lines[0]) if lines else 0):
        at = next((k for k, line in enumerate(lines) if line[place]), None)
        if at is None:
            determinant = 0
            continue
        top = lines.pop(at)
        determinant = determinant * top[place] * (-1) ** at % PRIME
        by = pow(top[place], -1, PRIME)
        lines = [[(n - line[place] * by * m) % PRIME for n, m in zip(line, top)] for line in lines]
        done.append(top)
    return done, determinant if not lines else 0


def rank_at(lines, point=987654321987):
    """The rank that lines of ROWS have at a point where it is hardly ever less than it is."""
    return len(brought_down(lines, point)[0])


def determinant_at(lines, point):
    return brought_down(lines, point)[1]


def whole_row(first, *worths):
    """The ROW with these integers or Fractions from first on."""
    return row_from({first + k: Fraction(worth) for k, worth in enumerate(worths)})


def random_row(source, most=8, size=6, bottoms=(1, 1, 1, 2, 3, 4)):
    """A ROW, often with holes, sometimes that of nothing."""
    tops = [source.choice((0, source.randint(-size, size))) for _ in range(source.randint(0, most))]
    first = source.randint(-9, 9)
    return row_from({first + k: Fraction(top, source.choice(bottoms)) for k, top in enumerate(tops)})


def random_something(source, most=8, size=6, bottoms=(1, 1, 1, 2, 3, 4)):
    """A ROW that is not that of nothing."""
    row = random_row(source, most, size, bottoms)
    while not row[1]:
        row = random_row(source, most, size, bottoms)
    return row


def is_in_form(row):
    """Whether this is a ROW in its one form, down to the kinds of its numbers."""
    if type(row) is not tuple or len(row) != 2 or type(row[0]) is not int or type(row[1]) is not tuple:
        return False
    for worth in row[1]:
        if type(worth) is not tuple or [type(number) for number in worth] != [int, int]:
            return False
    return repr(row_from(numbers(row))) == repr(row)


class Thing:
    """An object of no kind that the package knows."""


NO_INTEGERS = (True, False, None, "3", "", (3,), [3], (3, 1), {3: 3}, Thing())

NO_FRACTIONS = (
    True, None, 1, "1/2", (), (1,), (1, 2, 3), [1, 2], ((1, 2),), (2, 4), (-3, 3), (1, 0), (0, 0), (1, -2), (0, -1),
    (0, 2), (True, 1), (1, True), (None, 1), (1, None), ("1", 1), ((1, 1), 1), {1: 2}, Thing(),
)

NO_ROWS = (
    True, False, None, 0, 7, "", "-", "0: 1", (), (0,), (0, (), ()), (0, ((1, 1),), 0), [0, ()], [0, ((1, 1),)],
    (0, []), (0, [(1, 1)]), (0, None), (0, (1, 1)), (0, 1), (True, ((1, 1),)), (False, ()), (None, ()), ("0", ()),
    ((0, 1), ((1, 1),)), (1, ()), (-1, ()), (0, ((0, 1),)), (0, ((0, 1), (1, 1))), (0, ((1, 1), (0, 1))),
    (3, ((0, 1), (1, 1), (0, 1))), {0: ((1, 1),)}, Thing(),
) + tuple([(0, ((1, 1), wrong, (1, 1))) for wrong in NO_FRACTIONS]) + tuple([(0, (wrong,)) for wrong in NO_FRACTIONS])


def deep(kind):
    """Tuples, or lists, 60 deep."""
    out = kind()
    for _ in range(59):
        out = kind([out])
    return out


def wrong_tuples(rows):
    """What isn't a tuple of just so many ROWS as rows, though near it."""
    out = [None, True, 0, "", "-", (), [], {}, Thing(), list(rows), rows[:-1], (*rows, (0, ())), (rows,), rows[0], [rows]]
    out += [deep(tuple), deep(list), (deep(tuple),) * len(rows), (deep(list),) * len(rows), rows[:-1] + ((0, deep(tuple)),)]
    for wrong in NO_ROWS:
        out += [(wrong, *rows[1:]), (*rows[:-1], wrong)]
    return out


def assert_refused(test, error, value, look, /, *arguments, **named):
    """That look raises just this error, with the very value."""
    try:
        told = look(*arguments, **named)
    except ValueError as caught:
        test.assertIs(type(caught), error, (look.__name__, arguments, named))
        test.assertIs(caught.value, value, (look.__name__, arguments, named))
    else:
        test.fail((look.__name__, arguments, named, told))


def assert_refusals(test, look, right, wrong):
    """That look, by position and by name, refuses each wrong value, and of several the first that is listed.

    right has a right value for each parameter, in their sequence; wrong pairs
    (error, values) for those that can be wrong.
    """
    look(*right.values())
    look(**right)
    names = list(right)
    for at, name in enumerate(names):
        error, values = wrong.get(name, (None, ()))
        for k, value in enumerate(values):
            given = {**right, name: value}
            assert_refused(test, error, value, look, *given.values())
            assert_refused(test, error, value, look, **dict(reversed(list(given.items()))))
            for behind in names[at + 1:]:
                others = wrong.get(behind, (None, [None]))[1]
                given[behind] = others[k % len(others)]
            assert_refused(test, error, value, look, *given.values())
            assert_refused(test, error, value, look, **dict(reversed(list(given.items()))))
