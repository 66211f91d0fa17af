"""Whether letters can still be home in time, found by a search through all that the roads may do (6.3)."""

from heapq import heappop, heappush
from itertools import combinations

from hourcards.checks import are_integers, is_from, is_integer, is_tuple
from hourcards.days import are_letters, first_tick, some_early, some_full
from hourcards.errors import NoHomes, NoHours, NoLetters, NoNumber, NoTick, TooMany

MOST_SEARCHED = 12


class Roads:
    """What the roads may do with letters, each of which is to have its last hour by a limit.

    A node is a pair of a tick, at which somebody may be passed unless all are home, and of a tuple with a pair for
    each letter: its place, and the first tick from this one on at which it may be passed there.
    """

    # A letter that is passed earlier hinders nobody who is to be saved, so no road is left idle. Of letters with the
    # same way to go that wait at one road, the one with the least limit is passed first: where the others are to be
    # ahead of it, they can change their hours with it up to the place at which it overtakes them.

    def __init__(self, web, ways, limits):
        self.web = web
        self.ways = ways
        self.limits = limits
        self.runs = [runs_of([web.times[road] for road in way]) for way in ways]
        self.dead = {}

    def node(self, tick, state):
        """The node with this state at the first tick, from this one on, at which somebody may be passed."""
        firsts = [first for (place, first), way in zip(state, self.ways) if place < len(way)]
        if firsts:
            tick = max(tick, min(firsts))
        return tick, tuple([
            (place, max(first, tick)) if place < len(way) else (place, 0)
            for (place, first), way in zip(state, self.ways)])

    def is_over(self, node):
        """Whether all letters are home."""
        return all([place == len(way) for (place, _), way in zip(node[1], self.ways)])

    def is_hopeful(self, node):
        """Whether each road alone could pass all its letters between their least and their greatest ticks."""
        windows = {}
        for letter, (place, first) in enumerate(node[1]):
            way, runs, limit = self.ways[letter], self.runs[letter], self.limits[letter]
            for at in range(place, len(way)):
                least = first + runs[at] - runs[place]
                greatest = limit + runs[at] - runs[-1]
                if least > greatest:
                    return False
                windows.setdefault(way[at], []).append((least, greatest))
        return are_fit(windows, self.web.rooms)

    def picks(self, node):
        """The list of the tuples of letters that the roads may pass at the tick."""
        tick, state = node
        here = {}
        for letter, ((place, first), way) in enumerate(zip(state, self.ways)):
            if place < len(way) and first == tick:
                here.setdefault(way[place], []).append(letter)
        found = [()]
        for road, letters in here.items():
            options = self.options(state, road, letters)
            found = [pick + option for pick in found for option in options]
        return found

    def options(self, state, road, letters):
        """The list of the tuples of those of the letters that the road may pass."""
        rooms = self.web.rooms[road]
        if len(letters) <= rooms:
            return [tuple(letters)]
        to_go = {letter: self.ways[letter][state[letter][0]:] for letter in letters}
        order = sorted([(self.limits[letter] + self.runs[letter][state[letter][0]] - self.runs[letter][-1], letter)
                        for letter in letters])
        pressing = [letter for _, letter in order]
        return [option for option in combinations(pressing, int(rooms)) if is_in_order(pressing, to_go, option)]

    def after(self, node, pick):
        """The node behind this one, if these letters are passed."""
        tick, state = node
        moved = list(state)
        for letter in pick:
            place = state[letter][0]
            moved[letter] = (place + 1, tick + self.web.times[self.ways[letter][place]])
        return self.node(tick + 1, moved)


def runs_of(steps):
    """The list of the ticks that a letter alone needs from its first place to each."""
    runs = [0]
    for step in steps[:-1]:
        runs.append(runs[-1] + step)
    return runs


def is_in_order(pressing, to_go, option):
    """Whether nobody is chosen ahead of a more pressing one who has the same way to go."""
    passed_over = []
    for letter in pressing:
        if letter not in option:
            passed_over.append(to_go[letter])
        elif to_go[letter] in passed_over:
            return False
    return True


def are_fit(windows, rooms):
    """Whether each road can pass something at a tick of each of its windows, pairs (least, greatest)."""
    for road, found in windows.items():
        if not is_fit(sorted(found), rooms[road]):
            return False
    return True


def is_fit(windows, rooms):
    """Whether something can be passed at a tick of each of these ascending windows, so much at each tick."""
    ends = []
    at = 0
    tick = 0
    while at < len(windows) or ends:
        if not ends:
            tick = max(tick, windows[at][0])
        while at < len(windows) and windows[at][0] <= tick:
            heappush(ends, windows[at][1])
            at += 1
        for _ in range(min(rooms, len(ends))):
            if heappop(ends) < tick:
                return False
        tick += 1
    return True


def can_be_home(roads, node):
    """Whether from the node on all letters can be home by their limits."""
    nodes = [node]
    seen = {}
    while nodes:
        found = nodes.pop()
        if found in seen or found in roads.dead:
            continue
        seen[found] = True
        if not roads.is_hopeful(found):
            continue
        if roads.is_over(found):
            return True
        nodes += [roads.after(found, pick) for pick in reversed(roads.picks(found))]
    for found in seen:
        roads.dead[found] = True
    return False


def can_both_be_home(roads, others, node, other, until):
    """Whether letters can be passed, the same way in both up to the tick, so that all can be home in both."""
    pairs = [(node, other)]
    seen = {}
    while pairs:
        pair = pairs.pop()
        if pair in seen or not roads.is_hopeful(pair[0]) or not others.is_hopeful(pair[1]):
            continue
        seen[pair] = True
        if pair[0][0] <= until and not roads.is_over(pair[0]):
            for pick in reversed(roads.picks(pair[0])):
                pairs.append((roads.after(pair[0], pick), others.after(pair[1], pick)))
        elif can_be_home(roads, pair[0]) and can_be_home(others, pair[1]):
            return True
    return False


def savable(web, letters, homes, hours, tick, slack):
    """Whether all can be home at most so many ticks behind their home hours, after what was passed so far."""
    if not are_letters(web, letters):
        raise NoLetters()
    if not are_integers(len(letters), homes):
        raise NoHomes()
    if not are_hours_so_far(web, letters, hours, tick):
        raise NoHours()
    if not is_from(1, tick):
        raise NoTick()
    if not is_from(0, slack):
        raise NoNumber()
    if len(letters) > MOST_SEARCHED:
        raise TooMany(MOST_SEARCHED)
    rows = known_rows(hours)
    limits = [home + slack for home in homes]
    for (way, _), row, limit in zip(letters, rows, limits):
        if len(row) == len(way) and row[-1] > limit:
            return False
    roads = Roads(web, [way for way, _ in letters], limits)
    state = [(len(row), first_tick(web, letter, row)) for letter, row in zip(letters, rows)]
    return can_be_home(roads, roads.node(tick, state))


def known_rows(hours):
    """The list of the tuples of the hours that are told."""
    return [tuple([hour for hour in row if hour is not None]) for row in hours]


def are_hours_so_far(web, letters, thing, tick):
    """Whether it is hours of the letters, with None from some place on, lawful and ahead of the tick, if it is one."""
    if not is_tuple(len(letters), thing):
        return False
    if not all([is_row_so_far(len(way), row) for (way, _), row in zip(letters, thing)]):
        return False
    rows = known_rows(thing)
    begun = [(way[:len(row)], come) for (way, come), row in zip(letters, rows)]
    if some_early(web, begun, rows) or some_full(web, begun, rows):
        return False
    return not is_from(1, tick) or all([hour < tick for row in rows for hour in row])


def is_row_so_far(places, thing):
    """Whether it is a tuple with an integer at each of so many places, or None from some place on."""
    if not is_tuple(places, thing):
        return False
    many = len([item for item in thing if item is not None])
    return all([is_integer(item) for item in thing[:many]])
