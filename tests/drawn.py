"""Webs, ways, lots and days drawn by a generator, and what a web lets roads do, looked at tick by tick."""

import itertools

from hourcards.days import made_day
from hourcards.kinds import is_enough
from hourcards.webs import Web, next_roads


def drawn_web(rng, houses=6, roads=8, most=3, plain=False):
    """A web with at most so many houses and roads."""
    many = rng.randint(2, houses)
    pairs = []
    for _ in range(rng.randint(1, roads)):
        begin = rng.randrange(many)
        pairs.append((begin, rng.choice([house for house in range(many) if house != begin])))
    most = 1 if plain else most
    return Web(many, tuple(pairs), tuple([rng.randint(1, most) for _ in pairs]),
               tuple([rng.randint(1, most) for _ in pairs]))


def drawn_way(rng, web, longest=8):
    """A way that goes on as long as it can, or stops somewhere."""
    way = [rng.randrange(len(web.roads))]
    while len(way) < longest and next_roads(web, way[-1]) and rng.random() < 0.85:
        way.append(rng.choice(next_roads(web, way[-1])))
    return tuple(way)


def drawn_lot(rng, web, sort):
    """A lot that is enough, and mostly has no road that could be left out."""
    lot = list(range(len(web.roads)))
    rng.shuffle(lot)
    for road in list(lot):
        less = tuple(sorted([other for other in lot if other != road]))
        if rng.random() < 0.95 and is_enough(web, sort, less):
            lot.remove(road)
    return tuple(sorted(lot))


def drawn_day(rng, web, most=25, longest=8):
    """A day with at most so many letters."""
    span = rng.choice([1, 3, 8, 15])
    letters = tuple([(drawn_way(rng, web, longest), rng.randint(1, span)) for _ in range(rng.randint(0, most))])
    ranks = tuple([rng.randint(0, 5) for _ in letters])
    holds = {(number, place): rng.randint(1, span + 15) for number, (way, _) in enumerate(letters)
             for place in range(len(way)) if rng.random() < 0.15}
    return made_day(web, letters, ranks, holds)


# A state is a tuple with a pair for each letter: its place, and the first tick at which it may be passed there.

def begin_of(letters):
    return tuple([(0, letter[1]) for letter in letters])


def groups(letters, most):
    """All choices of at most so many of the letters."""
    return [group for many in range(most + 1) for group in itertools.combinations(letters, many)]


def next_states(web, ways, state, tick):
    """All states behind the tick, also those at which roads pass fewer letters than they could."""
    here = {}
    for letter, (place, first) in enumerate(state):
        if place < len(ways[letter]) and first <= tick:
            here.setdefault(ways[letter][place], []).append(letter)
    options = [groups(letters, web.rooms[road]) for road, letters in here.items()]
    found = []
    for choice in itertools.product(*options):
        moved = list(state)
        for group in choice:
            for letter in group:
                place = state[letter][0]
                moved[letter] = (place + 1, tick + web.times[ways[letter][place]])
        found.append(tuple(moved))
    return found


def is_lost(web, ways, limits, state, tick):
    """Whether some letter, even if nobody were in its way, is behind its limit."""
    for way, limit, (place, first) in zip(ways, limits, state):
        if place == len(way):
            last = first - web.times[way[-1]]
        else:
            last = max(first, tick) + sum([web.times[road] for road in way[place:-1]])
        if last > limit:
            return True
    return False


def can_be_saved(web, ways, limits, state, tick):
    """Whether all letters can be home by their limits, tried through all that the roads can do."""
    states = {state}
    while states:
        states = {found for found in states if not is_lost(web, ways, limits, found, tick)}
        if any([all([place == len(way) for (place, _), way in zip(found, ways)]) for found in states]):
            return True
        states = {found for known in states for found in next_states(web, ways, known, tick)}
        tick += 1
    return False


def states_at(web, letters, until):
    """All states of the letters behind the tick."""
    states = {begin_of(letters)}
    for tick in range(1, until + 1):
        states = {found for known in states for found in next_states(web, [way for way, _ in letters], known, tick)}
    return states


def is_tried_trap(day, other, until, late):
    """Whether in each way to pass letters up to the tick somebody is so late on one of the days, alike up to there."""
    numbers = [number for number, (_, come) in enumerate(day.letters) if come <= until]
    for state in states_at(day.web, [day.letters[number] for number in numbers], until):
        saved = []
        for led in (day, other):
            whole = list(begin_of(led.letters))
            for number, found in zip(numbers, state):
                whole[number] = found
            saved.append(can_be_saved(led.web, [way for way, _ in led.letters],
                                      [row[-1] + late - 1 for row in led.hours], tuple(whole), until + 1))
        if all(saved):
            return False
    return True
