"""What the tests of arrays, and of all that goes by them, need."""

from earstogether.arrays import Array
from tests.support import Thing, later, random_row, total_of

NAMES = ("a", "b", "c", "d", "e", "f", "g", "h")


def array_of(places, ways):
    """The ARRAY with ears a, b, c .. at these PLACES; an integer is a PLACE, or a WAY, of one."""
    places = [place if type(place) is tuple else (place,) for place in places]
    ways = [way if type(way) is tuple else (way,) for way in ways]
    return Array(tuple(zip(NAMES, places)), tuple(ways))


LINE = array_of((0, 1, 2), (0, 1))
THREE_WAYS = array_of((0, 1), (0, 1, 2))
TWO = array_of((0, 1), (0, 1))
PLANE = array_of(((0, 0), (2, 0), (0, 3)), ((1, 0), (0, -1)))
SQUARE = array_of(((0, 0), (1, 0), (2, 0), (0, 1)), ((1, 0), (1, 1), (0, 2)))
ONE_EAR = array_of((5,), (1, -1, 3))
ONE_WAY = array_of((-10, 0, 10), (3,))
ONE_PLACE = array_of((4, 4, 4), (1, 2))
ALIKE_HERE = array_of(((0, 0), (1, 0), (3, 0)), ((1, -3), (1, 2), (2, 0)))
SPACE = array_of(((1, 2, 3), (-3, 0, 2), (0, 1, 0), (2, -2, 1)), ((1, 0, 0), (0, 1, 1), (-1, 2, 0)))
MORE_WAYS = array_of(((0, 0), (1, 2)), ((1, 0), (0, 1), (-1, 1), (2, 2), (0, 0)))
EIGHT = array_of((0, 1, 2, 3, 5, 7, -4, 9), (0, 1, -1, 2))
EIGHT_SIX = array_of(
    ((0, 0), (1, 0), (0, 1), (2, 1), (-1, 2), (3, 3), (1, -2), (0, 0)),
    ((0, 0), (1, 0), (0, 1), (1, 1), (-1, 2), (2, -1)),
)

ARRAYS = (
    LINE, THREE_WAYS, TWO, PLANE, SQUARE, ONE_EAR, ONE_WAY, ONE_PLACE, ALIKE_HERE, SPACE, MORE_WAYS, EIGHT, EIGHT_SIX,
)

EARS = (("a", (0, 0)), ("b", (2, 0)), ("c", (0, 3)))
WAYS = ((1, 0), (0, -1))

NO_ARRAYS = (
    None, True, False, 0, "", LINE.text, (), (EARS, WAYS), [EARS, WAYS], {"ears": EARS, "ways": WAYS}, EARS, (LINE,),
    [LINE], Array, Thing(),
)

# For arrays with ears a, b and c, of which a LOT, but not that of all, should be told.
NO_NAMES = (
    None, True, 0, "", "a", "ab", [], ["a"], {"a": 1}, ("a", "a"), ("b", "a"), ("a", "c", "b"), ("a", "d"), ("d",), ("A",),
    ("",), ("a ",), (None,), (True,), (0,), (("a",),), ("a", ("b",)), ("a", None), ("a", "b", "b"), (["a"],), ("a", 1), Thing(),
)

# For such arrays, too; among them what would be equal to a NAME, but is none.
NO_EARS_THERE = (None, True, 0, 1, "", "d", "A", "ab", "a ", ("a",), ["a"], {"a": 0}, b"a", LINE, Thing())


def delay_at(array, ear, way):
    return sum([number * by for number, by in zip(array.ears[ear][1], array.ways[way])])


def heard_slowly(array, picture):
    return tuple([
        total_of([later(row, delay_at(array, ear, way)) for way, row in enumerate(picture)])
        for ear in range(len(array.ears))
    ])


def random_picture(source, array, most=5):
    return tuple([random_row(source, most) for _ in array.ways])


def random_records(source, array, most=5):
    return tuple([random_row(source, most) for _ in array.ears])


def random_array(source, most_ears=6, most_ways=5, far=4, steep=2):
    """An ARRAY, often with more ways than ears, or with ears at one place."""
    many, ears = source.randint(1, 3), source.randint(1, most_ears)
    places = [tuple([source.randint(-far, far) for _ in range(many)]) for _ in range(ears)]
    ways = []
    for _ in range(source.randint(1, most_ways)):
        way = tuple([source.randint(-steep, steep) for _ in range(many)])
        if way not in ways:
            ways.append(way)
    return array_of(places, ways)
