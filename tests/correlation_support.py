"""What the tests of correlations need: rows turned, compared and put together anew, in another way."""

from fractions import Fraction

from tests.support import later, numbers, product_of, row_from, whole_row

NOTHING = (0, ())
ONE = (0, ((1, 1),))
MINUS = whole_row(0, -1)

# Rows that can't be taken apart, in form; those that are the same turned, but for their sign, and others.
PALINDROMES = [whole_row(0, *[int(word) for word in text.split()]) for text in (
    "1 1", "1 -1", "1 1 1", "1 3 1", "2 -1 2", "1 0 1", "1 1 1 1 1", "2 0 1 0 2",
)]
OTHERS = [whole_row(0, *[int(word) for word in text.split()]) for text in (
    "1 2", "1 3", "1 -2", "2 3", "3 -1", "1 1 2", "1 0 2", "3 1 1", "1 0 1 1", "2 0 0 1", "1 1 0 0 3",
)]


def turned_about(row):
    return row_from({-moment: worth for moment, worth in numbers(row).items()})


def correlated(one, other):
    """The correlation, worth by worth."""
    left, right = numbers(one), numbers(other)
    table = {}
    for moment, worth in left.items():
        for place, by in right.items():
            table[moment - place] = table.get(moment - place, 0) + worth * by
    return row_from(table)


def formed(row):
    """The row in form."""
    if row == NOTHING:
        return NOTHING
    sign = 1 if row[1][0][0] > 0 else -1
    return product_of(later(row, -row[0]), whole_row(0, sign))


def order_of(row):
    return [Fraction(*worth) for worth in row[1]]


def sorted_rows(rows):
    return tuple(sorted(set(rows), key=order_of))


def all_products(parts, number=1):
    """The products of these rows and of a number, each part turned or not, in form: each once, sorted."""
    found = [whole_row(0, number)]
    for part in parts:
        found = [product_of(row, by) for row in found for by in (part, turned_about(part))]
    return sorted_rows([formed(row) for row in found])


def product_all(parts):
    out = ONE
    for part in parts:
        out = product_of(out, part)
    return out


def some_parts(source, most, palindromes=True):
    """Some rows that can't be taken apart, often one twice, of spreads that come to most at most."""
    parts, left = [], most
    while left > 0 and source.random() < 0.85:
        fitting = [row for row in OTHERS + (PALINDROMES if palindromes else []) if len(row[1]) - 1 <= left]
        part = source.choice(parts) if parts and source.random() < 0.3 else source.choice(fitting)
        if len(part[1]) - 1 <= left:
            parts.append(part)
            left -= len(part[1]) - 1
    return parts
