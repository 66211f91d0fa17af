"""Lines and rings of roads of any length, and their lots that are enough for hours (12)."""

from hourcards.checks import is_between
from hourcards.errors import NoLot, NoNumber
from hourcards.kinds import is_enough
from hourcards.webs import web_of_any_size

MOST_LINED = 200
GREATEST = 10 ** 30
LEAST_LINE = 1
LEAST_RING = 2


def check_number(low, high, number):
    """Raises what is wrong with it, if it is no integer from low to high."""
    if not is_between(low, high, number):
        raise NoNumber()


def line_web(n):
    """The line of so many roads."""
    check_number(LEAST_LINE, MOST_LINED, n)
    return plain_web(n + 1, tuple([(house, house + 1) for house in range(n)]))


def ring_web(n):
    """The ring of so many roads."""
    check_number(LEAST_RING, MOST_LINED, n)
    return plain_web(n, tuple([(house, house + 1) for house in range(n - 1)]) + ((n - 1, 0),))


def plain_web(houses, roads):
    """The web of these with rooms and times of 1."""
    return web_of_any_size(houses, roads, (1,) * len(roads), (1,) * len(roads))


# A lot of a line is enough if no three roads in a row are silent among all roads but the last one, which is free. On a
# ring each road leads on, so it is enough if no three in a row, round the ring, are silent. Of the next road it only
# matters how many roads just ahead of it are silent: the matrix has a row for 0, 1 and 2 of them, and in it in how
# many ways the road makes them 0 (as it is told), 1 or 2.
STEP = ((1, 1, 0), (1, 0, 1), (1, 0, 0))


def line_lots(n, modulus):
    """The rest of the number of the lots that are enough for a line of so many roads, divided by the modulus."""
    check_number(LEAST_LINE, GREATEST, n)
    check_number(1, GREATEST, modulus)
    return 2 * sum(step_power(n - 1, modulus)[0]) % modulus


def ring_lots(n, modulus):
    """The rest of the number of the lots that are enough for a ring of so many roads, divided by the modulus."""
    check_number(LEAST_RING, GREATEST, n)
    check_number(1, GREATEST, modulus)
    # Round the ring there are as many silent roads ahead of the first road as behind the last one.
    found = step_power(n, modulus)
    return sum([found[k][k] for k in range(len(found))]) % modulus


def step_power(power, modulus):
    """The matrix of so many steps, each number divided by the modulus."""
    found = ((1, 0, 0), (0, 1, 0), (0, 0, 1))
    square = STEP
    while power:
        if power & 1:
            found = times_matrix(found, square, modulus)
        square = times_matrix(square, square, modulus)
        power = power // 2
    return found


def times_matrix(one, other, modulus):
    """The product of two matrices, each number divided by the modulus."""
    columns = list(zip(*other))
    return tuple([
        tuple([sum([left * right for left, right in zip(row, column)]) % modulus for column in columns])
        for row in one])


def line_least(n):
    """The least number of roads of a lot that is enough for a line of so many roads."""
    check_number(LEAST_LINE, GREATEST, n)
    return (n - 1) // 3


def ring_least(n):
    """The least number of roads of a lot that is enough for a ring of so many roads."""
    check_number(LEAST_RING, GREATEST, n)
    return (n + 2) // 3


def line_lot(n, number):
    """The lot with this number among those that are enough for a line of so many roads."""
    check_number(LEAST_LINE, MOST_LINED, n)
    counts = lots_behind(n)
    check_number(0, counts[0][0] - 1, number)
    lot = []
    silent = 0
    for road in range(n):
        silent_lots = with_silent(counts, road, silent)
        if number < silent_lots:
            silent += 1
        else:
            number -= silent_lots
            silent = 0
            lot.append(road)
    return tuple(lot)


def line_number(n, lot):
    """The number of the lot among those that are enough for a line of so many roads."""
    check_number(LEAST_LINE, MOST_LINED, n)
    if not is_enough(line_web(n), "hours", lot):
        raise NoLot()
    counts = lots_behind(n)
    number = 0
    silent = 0
    for road in range(n):
        if road in lot:
            number += with_silent(counts, road, silent)
            silent = 0
        else:
            silent += 1
    return number


def lots_behind(n):
    """The list, for each road and behind the last one, of in how many ways to go on behind 0, 1 and 2 silent roads."""
    counts = [(1, 1, 1)]
    for road in reversed(range(n)):
        behind = counts[-1]
        if road == n - 1:
            counts.append((2, 2, 2))
        else:
            counts.append(tuple([sum([many * ways for many, ways in zip(behind, row)]) for row in STEP]))
    return counts[::-1]


def with_silent(counts, road, silent):
    """In how many ways to go on the road is silent, so many silent ones being just ahead of it."""
    last = len(counts) - 2
    if road < last and silent == 2:
        return 0
    return counts[road + 1][min(2, silent + 1)]
