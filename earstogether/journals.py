"""Journals: what was done at a bench, as a text that can be read back."""

from earstogether.arrays import numbers_text
from earstogether.benches import Bench
from earstogether.deeds import numbers_in
from earstogether.errors import BadJournal, EarError
from earstogether.places import are_ways


def journal(bench):
    """The text of all WAYS and of all deeds that stand."""
    ways = ["way " + numbers_text(way) for way in bench.ways]
    return "\n".join([*ways, "deeds", *bench.lines()])


def read_journal(text):
    """The Bench on which this was done."""
    if type(text) is not str:
        raise BadJournal(0)
    lines = text.split("\n")
    ways = read_ways(lines)
    bench = Bench(ways)
    for number, line in enumerate(lines[len(ways) + 1:], len(ways) + 2):
        do_or_refuse(bench, line, number)
    return bench


def read_ways(lines):
    """The WAYS of all lines ahead of the one that says deeds."""
    ways = ()
    for number, line in enumerate(lines, 1):
        if line == "deeds" and len(ways) > 0:
            return ways
        word, *words = line.split(" ")
        ways = (*ways, numbers_in(words))
        if word != "way" or not are_ways(ways):
            raise BadJournal(number)
    raise BadJournal(len(lines) + 1)


def do_or_refuse(bench, line, number):
    try:
        bench.do(line)
    except EarError:
        raise BadJournal(number) from None
