"""Webs and days that several tests use, and things of all kinds that stand in the place of arguments."""

from hourcards.days import Day
from hourcards.errors import BadWeb, NoRoad
from hourcards.halls import Hall
from hourcards.sized import SizedDay, SizedHall
from hourcards.webs import Web

# Roads in a row: 0 - 1 - 2 - 3.
LINE = Web(4, ((0, 1), (1, 2), (2, 3)), (1, 1, 1), (1, 1, 1))
# A road there and one back; the one back has two rooms and takes three ticks.
BACK = Web(2, ((0, 1), (1, 0)), (1, 2), (1, 3))
# Alike roads 0 and 1, then a fork: 2 and 4 begin where they end.
FORK = Web(5, ((0, 1), (0, 1), (1, 2), (2, 3), (1, 4)), (1, 2, 3, 1, 1), (1, 2, 3, 1, 1))
# The largest web: 12 houses in a ring, with a road each way between neighbours.
LARGE = Web(12, tuple([(k, (k + 1) % 12) for k in range(12)] + [((k + 1) % 12, k) for k in range(12)]),
            (3,) * 24, (1,) * 24)

DAY = Day(LINE, (((0, 1, 2), 1), ((0,), 2)), ((1, 2, 3), (2,)))
EMPTY = Day(LINE, (), ())
# Four roads in a row, as the examples of the document have it.
FOUR = Web(5, ((0, 1), (1, 2), (2, 3), (3, 4)), (1,) * 4, (1,) * 4)
# A ring of three roads.
RING = Web(3, ((0, 1), (1, 2), (2, 0)), (1,) * 3, (1,) * 3)
# Sized letters on LINE: the first one takes two ticks at each road.
SIZED = SizedDay(LINE, (((0, 1), 1, 2), ((0,), 2, 1)), ((1, 3), (3,)))


def nested(kind, deep):
    """Nothing but one thing inside the other, so deep."""
    thing = 0
    for _ in range(deep):
        thing = {0: thing} if kind is dict else kind([thing])
    return thing


# None of these is an integer, a pair, a way, letters, ranks, holds or numbers of letters.
ODD = [
    None, True, False, Ellipsis, NotImplemented, "", "0", "hours", b"", b"\x00", bytearray(b"\x00"),
    memoryview(b"\x00"), range(0), range(2), slice(0, 2), len, int, object(), iter([]), [None], (None,), [[]],
    ((),), (True,), [True], ("0",), (b"0",), {None: None}, {"0": 1}, {(True, 0): 1}, {(0, True): 1}, {True: 1},
    nested(list, 40), nested(tuple, 40), nested(dict, 40), LINE, DAY, NoRoad(), BadWeb("houses"), Web, Day, NoRoad,
    SIZED, Hall(LINE, (0, 1, 2), "hours"), SizedHall(LINE, (0, 1)), Hall, (SIZED,), {0: None}, b"hours", ["hours"],
    (LINE,), [DAY], (0, LINE), (NoRoad(),), (None,) * 9999, [True] * 9999,
]


def name_of(thing):
    """A short text for the message of a test that failed."""
    return f"{type(thing).__name__} {str(thing)[:60]}"
