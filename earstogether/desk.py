"""A desk: a bench that is told what to do, and asked, by lines."""

from earstogether.arrays import numbers_text
from earstogether.deeds import deed_in, words_of_line
from earstogether.errors import BadNumber, BadTask
from earstogether.figures import is_number_text, number_text, read_number
from earstogether.journals import read_journal
from earstogether.pictures import told
from earstogether.places import is_name
from earstogether.rows import row_text


class Desk:
    """A bench under lines."""

    def __init__(self, text):
        self.bench = read_journal(text)

    def say(self, line):
        """Does what a line tells, or answers what it asks."""
        words = words_of_line(line)
        if deed_in(words) is not None:
            self.bench.do(line)
        elif words == ["undo"]:
            self.bench.undo()
        elif words == ["redo"]:
            self.bench.redo()
        else:
            return answer(self.bench.station(), words, line)
        return "done"


def answer(station, words, line):
    """What a line asks of a Station, answered."""
    if len(words) == 1:
        return answer_at_large(station, words[0], line)
    if len(words) == 2 and words[0] == "holes" and is_name(words[1]):
        return numbers_text(station.holes(words[1])) or "none"
    if len(words) == 2 and words[0] in ("told", "row") and is_number_text(words[1]):
        way = read_number(words[1])
        return told_answer(station, way) if words[0] == "told" else row_answer(station, way)
    raise BadTask(line)


def answer_at_large(station, word, line):
    if word == "ready":
        return " ".join(station.ready) or "none"
    if word == "fits":
        return "no" if station.picture() is None else "yes"
    if word == "ghosts":
        return number_text(len(station.ghosts()))
    raise BadTask(line)


def told_answer(station, way):
    word, *rows = told(station.array(), way)
    return " ".join([word, *[row_text(row) for row in rows]])


def row_answer(station, way):
    if not 0 <= way < len(station.ways):
        raise BadNumber(way)
    picture = station.picture()
    if picture is None:
        return "none"
    return row_text(picture[way]) if told(station.array(), way) == ("told",) else "open"
