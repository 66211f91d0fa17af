"""Letters of two sizes, on webs where all rooms and times are 1 (8)."""

from hourcards.cards import come_by, is_alone, is_told, told_of
from hourcards.checks import are_integers, is_between, is_from, is_integer, is_tuple
from hourcards.days import LAST_TICK, MOST_LETTERS, hours_so_far
from hourcards.errors import BadDay, NoCard, NoLot, NoRoad, NotEnough, NotPlain, TooMany
from hourcards.saving import MOST_SEARCHED, are_fit, can_both_be_home
from hourcards.webs import is_lot, is_road, is_way, next_roads

SIZES = (1, 2)


def is_plain(web):
    """Whether all rooms and times are 1."""
    return all([number == 1 for number in web.rooms + web.times])


class SizedDay:
    """Letters of two sizes on a plain web, with the hour of each of them at each place of its way."""

    def __init__(self, web, letters, hours):
        if not is_plain(web):
            raise BadDay("web")
        if not are_sized_letters(web, letters):
            raise BadDay("letters")
        if not are_sized_hours(letters, hours):
            raise BadDay("hours")
        if some_sized_early(letters, hours):
            raise BadDay("early")
        if some_sized_full(letters, hours):
            raise BadDay("full")
        self.web = web
        self.letters = letters
        self.hours = hours

    def __eq__(self, other):
        return (isinstance(other, SizedDay) and self.web == other.web and self.letters == other.letters
                and self.hours == other.hours)


def are_sized_letters(web, thing):
    """Whether it is a tuple of sized letters, not too many."""
    return (isinstance(thing, tuple) and len(thing) <= MOST_LETTERS
            and all([is_sized_letter(web, letter) for letter in thing]))


def is_sized_letter(web, thing):
    """Whether it is a triple of a way, a tick at which a letter may come, and a size."""
    return (is_tuple(3, thing) and is_way(web, thing[0]) and is_between(1, LAST_TICK, thing[1])
            and is_size(thing[2]))


def is_size(thing):
    """Whether it is a size."""
    return is_integer(thing) and thing in SIZES


def are_sized_hours(letters, thing):
    """Whether it is a tuple with a tuple for each letter, and in it an integer for each place of its way."""
    return is_tuple(len(letters), thing) and all([
        are_integers(len(letter[0]), row) for letter, row in zip(letters, thing)])


def some_sized_early(letters, hours):
    """Whether some hour is earlier than may be."""
    for (_, come, size), row in zip(letters, hours):
        firsts = [come] + [hour + size for hour in row[:-1]]
        if any([hour < first for hour, first in zip(row, firsts)]):
            return True
    return False


def some_sized_full(letters, hours):
    """Whether some road is busy with two letters at one tick."""
    busy = {}
    for (way, _, size), row in zip(letters, hours):
        for road, hour in zip(way, row):
            for tick in range(hour, hour + size):
                if (road, tick) in busy:
                    return True
                busy[(road, tick)] = True
    return False


def sized_cards(day, lot):
    """The tuple of the cards of all letters."""
    if not is_lot(day.web, lot):
        raise NoLot()
    return tuple([
        (way, come, size, row[-1] + size - 1, told_of(lot, way, row))
        for (way, come, size), row in zip(day.letters, day.hours)])


def is_sized_card(web, lot, thing):
    """Whether it is a card of a sized letter, with hours that a letter alone could have."""
    if not is_tuple(5, thing):
        return False
    way, come, size, home, told = thing
    if not (is_way(web, way) and is_from(1, come) and is_size(size) and is_integer(home) and is_told(lot, way, told)):
        return False
    return is_alone([size for _ in way], come, told, home - size + 1)


def first_lacking(web, lot):
    """The first road that leads on and is silent, or None."""
    for road in range(len(web.roads)):
        if is_lacking(web, lot, road):
            return road
    return None


def is_lacking(web, lot, thing):
    """Whether it is a road that leads on and is silent."""
    return is_road(web, thing) and thing not in lot and len(next_roads(web, thing)) > 0


def is_sized_enough(web, lot):
    """Whether it is a lot that has each road that leads on."""
    if not is_plain(web):
        raise NotPlain()
    return is_lot(web, lot) and first_lacking(web, lot) is None


class SizedHall:
    """A sized day played again, led live by the cards of those who have come."""

    def __init__(self, web, lot):
        if not is_plain(web):
            raise NotPlain()
        if not is_lot(web, lot):
            raise NoLot()
        lacking = first_lacking(web, lot)
        if lacking is not None:
            raise NotEnough(lacking)
        self.web = web
        self.lot = lot
        self.clock = 1
        self.bearers = []
        self.rows = []
        self.free = [1 for _ in web.roads]

    def now(self):
        """The tick at which the clock stands."""
        return self.clock

    def come(self, card):
        """A letter with this card comes at this tick."""
        if not is_sized_card(self.web, self.lot, card) or card[1] != self.clock:
            raise NoCard()
        self.bearers.append(card)
        self.rows.append(())

    def tick(self):
        """The roads begin passings, and the clock goes on; the ascending list of the pairs (road, letter)."""
        chosen = {}
        # Cards of a day tell each hour. A letter may not be passed ahead of it: one that takes two ticks would be
        # in the way of one that comes at the next tick.
        told = sorted([(self.hour_at_road(letter), letter, road) for road, letter in self.waiting()])
        for hour, letter, road in told:
            if hour <= self.clock and road not in chosen:
                chosen[road] = letter
        for road, letter in chosen.items():
            self.rows[letter] = self.rows[letter] + (self.clock,)
            self.free[road] = self.clock + self.bearers[letter][2]
        self.clock += 1
        return sorted(chosen.items())

    def waiting(self):
        """The ascending list of the pairs (road, letter) of those that may be passed now at roads that are free."""
        found = []
        for letter, (card, row) in enumerate(zip(self.bearers, self.rows)):
            if len(row) < len(card[0]):
                road = card[0][len(row)]
                first = row[-1] + card[2] if row else card[1]
                if max(first, self.free[road]) <= self.clock:
                    found.append((road, letter))
        return sorted(found)

    def so_far(self):
        """The hours of all letters that have come, with None where they were not passed so far."""
        return hours_so_far(self.bearers, self.rows)

    def left(self):
        """How many letters there are whose last passing has not begun."""
        return len([row for card, row in zip(self.bearers, self.rows) if len(row) < len(card[0])])

    def hour_at_road(self, letter):
        """The hour that the letter had on the day at the road at which it waits."""
        _, _, size, home, told = self.bearers[letter]
        hour = told[len(self.rows[letter])]
        # A silent road ends each way that comes to it.
        return home - size + 1 if hour is None else hour


def sized_trap(web, lot, road):
    """A triple (day, other, until) of sized days of which no rule plays both again."""
    if not is_plain(web):
        raise NotPlain()
    if not is_lot(web, lot):
        raise NoLot()
    if not is_lacking(web, lot, road):
        raise NoRoad()
    runner = ((road, next_roads(web, road)[0]), 1, 2)
    # At tick 1 the road takes the runner or waits. A letter that comes at 3 wants it to have begun, one that comes at
    # 2 wants it to have waited.
    day = SizedDay(web, (runner, ((road,), 3, 1)), ((1, 5), (3,)))
    other = SizedDay(web, (runner, ((road,), 2, 1)), ((3, 5), (2,)))
    return day, other, 1


def is_sized_trap(web, lot, thing):
    """Whether it is a trap of sized days."""
    if not is_plain(web):
        raise NotPlain()
    if not is_lot(web, lot):
        raise NoLot()
    if not is_tuple(3, thing) or not is_between(1, LAST_TICK, thing[2]):
        return False
    day, other, until = thing
    if not is_sized_day_on(web, day) or not is_sized_day_on(web, other):
        return False
    if max(len(day.letters), len(other.letters)) > MOST_SEARCHED:
        raise TooMany(MOST_SEARCHED)
    if come_by(sized_cards(day, lot), until) != come_by(sized_cards(other, lot), until):
        return False
    roads = SizedRoads(web, day.letters, [row[-1] for row in day.hours], until)
    others = SizedRoads(web, other.letters, [row[-1] for row in other.hours], until)
    return not can_both_be_home(roads, others, roads.begin(), others.begin(), until)


def is_sized_day_on(web, thing):
    """Whether it is a sized day on the web."""
    return isinstance(thing, SizedDay) and thing.web == web


class SizedRoads:
    """What the roads of a plain web may do with sized letters, each of which is to begin its last passing by a limit.

    A node is a tuple of a tick, of a tuple with a pair for each letter (its place, and the first tick from this one
    on at which it may be passed there), of the first tick for each road at which it is free, and of the roads that
    were left idle for somebody who comes to them at this tick.
    """

    # As with Roads, earlier is never worse, and of letters of one size with the same way to go the one with the least
    # limit is first. So a road is left idle only for a letter that comes to it at the next tick, while those who wait
    # are all of size 2: a letter of size 1 could be passed meanwhile. At until the days part, so that a road may be
    # left idle then for the sake of one of them.

    def __init__(self, web, letters, limits, until):
        self.web = web
        self.letters = letters
        self.limits = limits
        self.until = until
        self.dead = {}

    def begin(self):
        """The node at which nobody was passed yet."""
        return self.node(1, [(0, come) for _, come, _ in self.letters], [1 for _ in self.web.roads], ())

    def node(self, tick, state, free, owing):
        """The node with this state at the first tick, from this one on, at which somebody may be passed."""
        firsts = [max(first, free[letter[0][place]])
                  for (place, first), letter in zip(state, self.letters) if place < len(letter[0])]
        if firsts:
            tick = max(tick, min(firsts))
        # Owing roads pass one who comes just now, so who was there a tick ago is told apart.
        least = tick - 1 if owing else tick
        return tick, tuple([
            (place, max(first, least)) if place < len(letter[0]) else (place, 0)
            for (place, first), letter in zip(state, self.letters)]), tuple([max(first, tick) for first in free]), owing

    def is_over(self, node):
        """Whether the last passing of each letter has begun."""
        return all([place == len(letter[0]) for (place, _), letter in zip(node[1], self.letters)])

    def is_hopeful(self, node):
        """Whether each road alone could be busy with all its letters between their least and their greatest ticks."""
        windows = {}
        for letter, (place, first) in enumerate(node[1]):
            way, _, size = self.letters[letter]
            least = first
            for at in range(place, len(way)):
                least = max(least, node[2][way[at]])
                greatest = self.limits[letter] - (len(way) - 1 - at) * size
                if least > greatest:
                    return False
                windows.setdefault(way[at], []).extend([(least + more, greatest + more) for more in range(size)])
                least += size
        return are_fit(windows, self.web.rooms)

    def picks(self, node):
        """The list of the tuples of letters whose passing may begin at the tick."""
        here = self.letters_here(node)
        found = [()]
        for road, letters in here.items():
            options = self.options(node, road, letters)
            found = [pick + option for pick in found for option in options]
        return [pick for pick in found if node[0] == self.until or self.is_awaited(node, here, pick)]

    def letters_here(self, node):
        """The dict from the roads that are free, and at which somebody waits, to the lists of these letters."""
        tick, state, free, _ = node
        here = {}
        for letter, (place, first) in enumerate(state):
            way = self.letters[letter][0]
            if place < len(way) and max(first, free[way[place]]) <= tick:
                here.setdefault(way[place], []).append(letter)
        return here

    def options(self, node, road, letters):
        """The list of the tuples of at most one of the letters, whose passing the road may begin."""
        tick, state, _, owing = node
        kept = []
        begun = []
        for _, letter in sorted([(self.limits[letter], letter) for letter in letters]):
            to_go = (self.letters[letter][0][state[letter][0]:], self.letters[letter][2])
            if to_go not in begun and (road not in owing or state[letter][1] == tick):
                kept.append((letter,))
            begun.append(to_go)
        if road not in owing and all([self.letters[letter][2] == 2 for letter in letters]):
            kept.append(())
        return kept

    def moved(self, node, pick):
        """The list of the pairs (place, first tick there) of the letters behind the pick."""
        moved = list(node[1])
        for letter in pick:
            moved[letter] = (moved[letter][0] + 1, node[0] + self.letters[letter][2])
        return moved

    def is_awaited(self, node, here, pick):
        """Whether at each road that the pick leaves idle somebody comes at the next tick."""
        coming = {}
        for (place, first), letter in zip(self.moved(node, pick), self.letters):
            if place < len(letter[0]) and first == node[0] + 1:
                coming[letter[0][place]] = True
        return all([road in coming for road in left_idle(here, pick)])

    def after(self, node, pick):
        """The node behind this one, if the passings of these letters begin."""
        tick, state, free, _ = node
        busy = list(free)
        for letter in pick:
            way, _, size = self.letters[letter]
            busy[way[state[letter][0]]] = tick + size
        owing = () if tick == self.until else tuple(left_idle(self.letters_here(node), pick))
        return self.node(tick + 1, self.moved(node, pick), busy, owing)


def left_idle(here, pick):
    """The ascending list of the roads none of whose letters is in the pick."""
    return sorted([road for road, letters in here.items() if all([letter not in pick for letter in letters])])
