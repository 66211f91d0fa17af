"""Plans: cards that tell a letter's own places, the rule that plays by them, and the traps of gaps (9)."""

from hourcards.cards import come_by, is_alone
from hourcards.checks import are_between, is_between, is_from, is_integer, is_tuple
from hourcards.days import LAST_TICK, first_tick, hours_so_far
from hourcards.errors import NoCard, NoGap, NoNumber, NoPlan, NotEnough, TooMany
from hourcards.saving import MOST_SEARCHED
from hourcards.traps import MOST_AHEAD, is_day_on, is_kept, led_day
from hourcards.webs import LONGEST_TIME, LONGEST_WAY, Web, is_way


def is_plan(thing):
    """Whether it is a tuple of the told places of ways of each length, the last place among them."""
    return is_tuple(LONGEST_WAY, thing) and all([are_told_places(last, places) for last, places in enumerate(thing)])


def are_told_places(last, thing):
    """Whether it is an ascending tuple of unlike places up to this last one, which is among them."""
    return (isinstance(thing, tuple) and are_between(len(thing), 0, last, thing) and last in thing
            and all([place < after for place, after in zip(thing, thing[1:])]))


def check_plan(plan):
    """Raises what is wrong with it."""
    if not is_plan(plan):
        raise NoPlan()


def plan_cards(day, plan):
    """The tuple of the cards of all letters, with the hours at the places that the plan tells."""
    check_plan(plan)
    return tuple([(way, come, row[-1], told_by(plan, row)) for (way, come), row in zip(day.letters, day.hours)])


def told_by(plan, row):
    """The items of the row at the places that the plan tells, None at the others."""
    places = plan[len(row) - 1]
    return tuple([item if place in places else None for place, item in enumerate(row)])


def is_plan_card(web, plan, thing):
    """Whether it is a card by the plan, with hours that a letter alone could have."""
    if not is_tuple(4, thing):
        return False
    way, come, home, told = thing
    if not (is_way(web, way) and is_from(1, come) and is_integer(home) and is_told_by(plan, len(way), told)):
        return False
    return is_alone([web.times[road] for road in way], come, told, home)


def is_told_by(plan, length, thing):
    """Whether it is a tuple with an integer at each place that the plan tells for this length, and None at others."""
    places = plan[length - 1]
    return is_tuple(length, thing) and all([
        is_integer(item) if place in places else item is None for place, item in enumerate(thing)])


def plan_gaps(plan):
    """The ascending list of the pairs (length, place) of two silent places that follow one another."""
    check_plan(plan)
    found = []
    for last, places in enumerate(plan):
        found += [(last + 1, place) for place in range(last) if place not in places and place + 1 not in places]
    return found


def least_plan():
    """The plan that is enough with the fewest places, and the least such places, for each length."""
    # Every other place from the last one back: with fewer, or with the first of them at a lesser place, a gap is left.
    return tuple([tuple(range(last & 1, last + 1, 2)) for last in range(LONGEST_WAY)])


class PlanHall:
    """A day played again, led live by cards that tell their letters' own places."""

    def __init__(self, web, plan):
        gaps = plan_gaps(plan)
        if gaps:
            raise NotEnough(gaps[0])
        self.web = web
        self.plan = plan
        self.clock = 1
        self.bearers = []
        self.rows = []
        self.out = {}

    def now(self):
        """The tick at which the clock stands."""
        return self.clock

    def come(self, card):
        """A letter with this card comes at this tick."""
        if not is_plan_card(self.web, self.plan, card) or card[1] != self.clock:
            raise NoCard()
        self.out[len(self.rows)] = True
        self.bearers.append(card)
        self.rows.append(())

    def tick(self):
        """The roads pass letters, and the clock goes on; the ascending list of the pairs (road, letter)."""
        used = [0 for _ in self.web.roads]
        passed = []
        for _, letter, road in sorted([(self.due(letter), letter, road) for road, letter in self.waiting()]):
            if used[road] < self.web.rooms[road]:
                used[road] += 1
                passed.append((road, letter))
        for _, letter in passed:
            self.rows[letter] = self.rows[letter] + (self.clock,)
            if len(self.rows[letter]) == len(self.bearers[letter][0]):
                del self.out[letter]
        self.clock += 1
        return sorted(passed)

    def waiting(self):
        """The ascending list of the pairs (road, letter) of those that may be passed now."""
        found = []
        for letter in self.out:
            card, row = self.bearers[letter], self.rows[letter]
            if first_tick(self.web, card[:2], row) <= self.clock:
                found.append((card[0][len(row)], letter))
        return sorted(found)

    def so_far(self):
        """The hours of all letters that have come, with None where they were not passed so far."""
        return hours_so_far(self.bearers, self.rows)

    def left(self):
        """How many letters are not home."""
        return len(self.out)

    def due(self, letter):
        """The last tick at which the letter may be passed where it waits, so as to be in time where it is told next."""
        way, _, _, told = self.bearers[letter]
        place = len(self.rows[letter])
        # There is no gap, so that a place behind a silent one is told.
        return told[place + 1] - self.web.times[way[place]] if told[place] is None else told[place]


def plan_trap(plan, length, place, ahead):
    """A tuple (web, day, other, until) of two days of which no rule plays both again by the plan, at a gap of it."""
    check_plan(plan)
    if not (is_integer(length) and is_integer(place) and (length, place) in plan_gaps(plan)):
        raise NoGap()
    if not is_between(0, MOST_AHEAD, ahead):
        raise NoNumber()
    # Two letters come to the road of the gap at the same tick, and part behind it, each to one of two alike roads;
    # ahead of it and behind these they are in nobody's way.
    pairs = tuple([(house, house + 1) for house in range(length)]) + ((place + 1, place + 2),)
    narrow = (place, place + 1, length)
    rooms = tuple([1 if road in narrow else 2 for road in range(length + 1)])
    # A letter that passes the road of the gap is at the next one as much later as may be: so many fewer ticks are to be
    # filled, and with 12 ticks ahead a day has just the 12 letters that can be searched.
    times = tuple([LONGEST_TIME if road == place else 1 for road in range(length + 1)])
    web = Web(length + 1, pairs, rooms, times)
    until = place + 1
    later = max(until, until + ahead - LONGEST_TIME) + 1
    ways = (tuple(range(length)), tuple([length if road == place + 1 else road for road in range(length)]))
    days = []
    # The one that is passed first is hindered by another letter at its second road, just when it would be there if
    # it were passed later.
    for first in (0, 1):
        passings = [(way, 1, hours_by(length, place, until if way == ways[first] else later, later)) for way in ways]
        passings += [((place,), tick, (tick,)) for tick in range(until + 1, later)]
        hindered = later + LONGEST_TIME
        passings.append(((ways[first][place + 1],), hindered, (hindered,)))
        days.append(led_day(web, passings))
    return web, days[0], days[1], until


def hours_by(length, place, hour, later):
    """The hours of a letter that passes the road of the gap at this hour, and is behind the gap as if it were later."""
    behind = later + LONGEST_TIME + 1
    return tuple(range(1, place + 1)) + (hour, hour + LONGEST_TIME) + tuple(range(behind, behind + length - place - 2))


def is_plan_trap(plan, ahead, thing):
    """Whether it is a tuple (web, day, other, until) of two days of which no rule plays both again by the plan."""
    check_plan(plan)
    if not is_from(0, ahead):
        raise NoNumber()
    if not is_tuple(4, thing) or not isinstance(thing[0], Web) or not is_between(1, LAST_TICK, thing[3]):
        return False
    web, day, other, until = thing
    if not is_day_on(web, day) or not is_day_on(web, other):
        return False
    if max(len(day.letters), len(other.letters)) > MOST_SEARCHED:
        raise TooMany(MOST_SEARCHED)
    seen = until + ahead
    return (come_by(plan_cards(day, plan), seen) == come_by(plan_cards(other, plan), seen)
            and not is_kept(day, other, until, 1))
