"""Matrices brought to steps, line by line, in whole rows.

What is kept of the lines so far is a *base*: columns of whole rows such that
whatever comes to nothing at all these lines is a sum of them, each times a
ROW. One more line brings the base to sums of its columns of which one alone,
the *top*, comes to something there; the others are the new base. Each change
can be taken back: it is a sum with a multiple of another column, a number, or
a shift.
"""

from math import gcd

from earstogether.wholerows import coming_to, cut


class Sum:
    """A sum of columns on its way to a base.

    parts are its lists of numbers, all from the moment first on; gain is what
    it comes to at the line under way: numbers, the first one not 0, from the
    moment at on.
    """

    def __init__(self, column, line):
        self.first = min([start for start, numbers in column if numbers])
        self.parts = [[0] * (start - self.first) + numbers if numbers else [] for start, numbers in column]
        self.at, self.gain = coming_to(line, column)

    def end(self):
        return self.first + max([len(part) for part in self.parts])

    def put_off(self, by):
        self.first += by
        self.at += by

    def take_off(self, other):
        """Takes so much of other from this, times a number, that both gains' first number goes here."""
        shared = gcd(self.gain[0], other.gain[0])
        own, by = other.gain[0] // shared, self.gain[0] // shared
        if own < 0:
            own, by = -own, -by
        if own != 1:
            self.change([[number * own for number in part] for part in [self.gain, *self.parts]])
        self.begin_by(other.first)
        for k in range(len(self.parts)):
            take(self.parts[k], other.first - self.first, by, other.parts[k])
        take(self.gain, 0, by, other.gain)
        self.shorten()

    def change(self, lists):
        self.gain = lists[0]
        self.parts = lists[1:]

    def begin_by(self, moment):
        if moment < self.first:
            self.parts = [[0] * (self.first - moment) + part if part else [] for part in self.parts]
            self.first = moment

    def shorten(self):
        """Leaves out noughts ahead of the gain, and what all numbers have in common."""
        low = 0
        while low < len(self.gain) and self.gain[low] == 0:
            low += 1
        del self.gain[:low]
        self.at += low
        shared = self.common_number()
        if shared > 1:
            self.change([[number // shared for number in part] for part in [self.gain, *self.parts]])

    def common_number(self):
        shared = 0
        for part in self.parts:
            for number in part:
                shared = gcd(shared, number)
                if shared == 1:
                    return 1
        return shared

    def as_column(self):
        """The whole rows of this sum, shifted so that the first of them begins at 0."""
        parts = [cut(0, part) for part in self.parts]
        early = min([start for start, numbers in parts if numbers])
        return [(start - early, numbers) if numbers else (0, []) for start, numbers in parts]


def take(target, at, by, source):
    """Takes source, times by, its first number at the place at, from target; leaves no noughts at its end."""
    if len(source) == 0:
        return
    target.extend([0] * (at + len(source) - len(target)))
    for place, number in enumerate(source, at):
        target[place] -= by * number
    while target and target[-1] == 0:
        target.pop()


def unit_columns(many):
    return [[(0, [1] if k == at else []) for k in range(many)] for at in range(many)]


def line_step(base, line):
    """(top, base): what one more line brings this base to; top is None if all comes to nothing there."""
    sums = [Sum(column, line) for column in base]
    while len(live_ones(sums)) > 1:
        clear_earliest(sums)
    live = live_ones(sums)
    rest = [one.as_column() for k, one in enumerate(sums) if k not in live]
    return (sums[live[0]].as_column() if live else None, rest)


def live_ones(sums):
    return [k for k, one in enumerate(sums) if one.gain]


def clear_earliest(sums):
    """Takes the earliest number from all gains but one, and puts that one off.

    That one is the sum that ends first: so the sums stay as narrow as can be,
    and so do their numbers. (Were they widest where the gains are, the next
    lines would make them wider each time.)
    """
    live = live_ones(sums)
    moment = min([sums[k].at for k in live])
    level = [k for k in live if sums[k].at == moment]
    keeping = min(level, key=lambda k: (sums[k].end(), len(sums[k].gain)))
    for k in level:
        if k != keeping:
            sums[k].take_off(sums[keeping])
    later = [sums[k].at for k in live if k != keeping and sums[k].gain]
    if later:
        sums[keeping].put_off(min(later) - moment)


def steps_of(lines, many):
    """(tops, base) of all these lines of so many whole rows each: tops has pairs (number of the line, column)."""
    tops, base = [], unit_columns(many)
    for number, line in enumerate(lines):
        top, base = line_step(base, line)
        if top is not None:
            tops.append((number, top))
    return (tops, base)
