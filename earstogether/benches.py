"""Benches: a Station under hands, with what was done, undone and tried."""

from earstogether.deeds import deed_in, do_at, words_of_line
from earstogether.errors import BadTask, BadWays, NoBlock, NothingToRedo, NothingToUndo
from earstogether.keeping import Station
from earstogether.places import are_ways

UNDER_WAY = "under way"
KEPT = "kept"


class Bench:
    """A Station, and the deeds that made it.

    done has a pair (line, posts) for each deed that stands: posts is how the
    Station stands behind it. undone has those that can be done again, the
    next one last. Both are tuples: whoever keeps them keeps how the bench stood.
    """

    def __init__(self, ways):
        if not are_ways(ways):
            raise BadWays(ways)
        self.ways = ways
        self.deeds = 0
        self.done = ()
        self.undone = ()
        self.trial = None

    def __len__(self):
        return len(self.standing())

    def __eq__(self, other):
        return isinstance(other, Bench) and self.ways == other.ways and self.lines() == other.lines()

    def standing(self):
        """The posts of all ears that stand."""
        return self.done[-1][1] if self.deeds > 0 else {}

    def lines(self):
        """The line of each deed that stands, in sequence."""
        return [line for line, _ in self.done]

    def stand(self, done, undone):
        self.done = done
        self.undone = undone
        self.deeds = len(done)

    def station(self):
        """A Station that stands as the bench's does, by itself."""
        station = Station(self.ways)
        station.stand(self.standing())
        return station

    def do(self, line):
        """Does the deed of this line."""
        told = deed_in(words_of_line(line))
        if told is None:
            raise BadTask(line)
        station = self.station()
        do_at(station, *told)
        self.stand((*self.done, (line, station.posts)), ())

    def undo(self):
        """Takes the last deed back that stands."""
        if self.deeds == 0:
            raise NothingToUndo(None)
        self.stand(self.done[:-1], (*self.undone, self.done[-1]))

    def redo(self):
        """Does the deed again that was taken back last."""
        if len(self.undone) == 0:
            raise NothingToRedo(None)
        self.stand((*self.done, self.undone[-1]), self.undone[:-1])

    def keep(self):
        """Has the innermost trial kept, if no error comes of it."""
        if self.trial is None:
            raise NoBlock(None)
        self.trial = KEPT

    def tried(self, look, *, keep=False):
        """What look tells, called with the bench: which stays so only if that is kept, and no error comes."""
        outer, done, undone, deeds = self.trial, self.done, self.undone, self.deeds
        stays = None
        self.trial = UNDER_WAY
        try:
            told = look(self)
            if keep is True or self.trial == KEPT:
                stays = True
        finally:
            self.trial = outer
            if stays is None:
                self.done, self.undone, self.deeds = done, undone, deeds
        return told

    def copy(self):
        """An independent bench, alike in all things, outside of all trials."""
        other = Bench(self.ways)
        other.stand(self.done, self.undone)
        return other
