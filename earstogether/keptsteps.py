"""Steps of ears, reckoned ear by ear, and kept for other ears behind the same first ones."""

from earstogether.hearing import clicks_at, matrix_at
from earstogether.solving import Steps
from earstogether.stepping import line_step, unit_columns
from earstogether.wholerows import whole_rows


class KeptSteps:
    """What was reckoned of the steps of ears, for some WAYS.

    kept has, by the PLACES of one ear, two, or more, what the last one of
    them does to the base that the others leave.
    """

    def __init__(self, ways):
        self.ways = ways
        self.kept = {}

    def steps_to(self, ears):
        """The Steps of the MATRIX of these ears; what is not kept yet is reckoned."""
        places, tops, base = (), [], unit_columns(len(self.ways))
        for number, (_, place) in enumerate(ears):
            places = (*places, place)
            if places not in self.kept:
                self.kept[places] = line_step(base, whole_rows(clicks_at(place, self.ways))[1])
            top, base = self.kept[places]
            if top is not None:
                tops.append((number, top))
        return Steps(matrix_at(ears, self.ways), (tops, base))

    def copy(self):
        other = KeptSteps(self.ways)
        other.kept = {places: self.kept[places] for places in self.kept}
        return other
