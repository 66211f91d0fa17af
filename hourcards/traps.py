"""Traps: two days, alike up to a tick, of which no rule plays both again (6.1, 6.2)."""

from hourcards.cards import alike, check_lot_and_sort
from hourcards.checks import is_between, is_from, is_tuple
from hourcards.days import LAST_TICK, Day, day_of_any_size
from hourcards.errors import NoNumber, NoPlace, TooMany
from hourcards.kinds import is_bad_place
from hourcards.saving import MOST_SEARCHED, Roads, can_both_be_home
from hourcards.webs import next_roads

MOST_AHEAD = 12
MOST_LATE = 3


def is_trap(web, lot, sort, ahead, late, thing):
    """Whether it is a trap for those who see so many ticks ahead, in which somebody is so many ticks late."""
    check_lot_and_sort(web, lot, sort)
    if not is_from(0, ahead) or not is_from(1, late):
        raise NoNumber()
    if not is_tuple(3, thing) or not is_between(1, LAST_TICK, thing[2]):
        return False
    day, other, until = thing
    if not is_day_on(web, day) or not is_day_on(web, other):
        return False
    if max(len(day.letters), len(other.letters)) > MOST_SEARCHED:
        raise TooMany(MOST_SEARCHED)
    return alike(day, other, lot, sort, until + ahead) and not is_kept(day, other, until, late)


def is_day_on(web, thing):
    """Whether it is a day on the web."""
    return isinstance(thing, Day) and thing.web == web


def is_kept(day, other, until, late):
    """Whether roads that do the same in both days up to the tick can keep everybody from being so late in either."""
    roads = roads_of(day, late)
    others = roads_of(other, late)
    return can_both_be_home(roads, others, begin_of(roads, day), begin_of(others, other), until)


def roads_of(day, late):
    """The roads that are to pass the letters of the day less than so many ticks behind its hours."""
    return Roads(day.web, [way for way, _ in day.letters], [row[-1] + late - 1 for row in day.hours])


def begin_of(roads, day):
    """The node at which nobody was passed yet."""
    return roads.node(1, [(0, come) for _, come in day.letters])


def trap(web, lot, sort, place, ahead, late):
    """A trap at the bad place."""
    check_lot_and_sort(web, lot, sort)
    if not is_bad_place(web, lot, sort, place):
        raise NoPlace()
    if not is_between(0, MOST_AHEAD, ahead):
        raise NoNumber()
    # A road that a letter passes twice hinders itself, and cannot be blocked for those who may be late.
    if not is_between(1, 1 if place[1] == place[-1] else MOST_LATE, late):
        raise NoNumber()
    scene = Scene(web, place, ahead, late)
    return led_day(web, scene.first_day()), led_day(web, scene.second_day()), scene.until


def led_day(web, passings):
    """The day of these triples (way, come, hours)."""
    letters = tuple([(way, come) for way, come, _ in passings])
    return day_of_any_size(web, letters, tuple([hours for _, _, hours in passings]))


def ways_at(web, place):
    """The way of those who go through the bad place and one road further, and of those who leave it or end ahead."""
    first, last = place[1], place[-1]
    _, on = min([(road in place[1:], road) for road in next_roads(web, last)])
    if place[0] == "row":
        return place[1:] + (on,), place[1:3]
    side = min([road for road in next_roads(web, first) if road != last])
    return (first, last, on), (first, side)


def ticks_for(many, pace):
    """How many ticks so many letters need, so many a tick."""
    return (many + pace - 1) // pace


class Scene:
    """Where and when the letters of a trap go.

    Runners and enders come to the first road of the place, as many of the one as of the other at each tick. Runners go
    through the place and one road further, enders do not come to its last road. Up to until the first road has rooms
    for just the one or the other, then fillers leave it none until more is seen than can be at until. On the first
    day the last road is blocked then, so the runners had to be ahead; on the second day the first road stays blocked
    for as long as the enders might pass it, so they had to be ahead. Fillers and blocks are letters with one road,
    home as they come.
    """

    def __init__(self, web, place, ahead, late):
        self.web = web
        self.first = place[1]
        self.last = place[-1]
        self.running, self.ending = ways_at(web, place)
        rooms = [web.rooms[road] for road in self.running]
        self.run = sum([web.times[road] for road in self.running[:-2]])
        self.pace = min(rooms[:-1])
        self.home_pace = min(rooms)
        self.end_pace = min(rooms[0], web.rooms[self.ending[-1]])
        # A blocked road passes as many others as it passes in the ticks that all may be late: one more is too many.
        # So many runners may be passed on the second day, and be too late on the first day and be home. Where fillers
        # come ahead of the block, more of them are passed as the fillers make room.
        spare = (late - 1) * (rooms[0] + rooms[-2]) + min(late - 1, max(0, ahead - self.run)) * rooms[0]
        self.many = spare + 1
        self.until = ticks_for(self.many, self.pace)
        self.seen = self.until + ahead
        self.cleared = self.seen + ticks_for(self.many, self.end_pace)
        # If nobody may be late, nobody who is passed behind the fillers comes to the last road ahead of this tick.
        self.block = self.seen + self.run + 1 if late == 1 else self.until + max(self.run, ahead) + 1
        self.home = self.cleared + 1 + self.run + web.times[self.last]
        if self.running[-1] in place:
            # None of them comes to this road once more ahead of another's first time.
            self.home += self.until - 1

    def first_day(self):
        """The list of the triples (way, come, hours) of the day on which the runners are ahead."""
        enders = [self.seen + 1 + number // self.end_pace for number in range(self.many)]
        end = self.home + (self.many - 1) // self.home_pace - self.web.times[self.last]
        return self.common(1, enders) + self.blocks(self.last, self.block, end)

    def second_day(self):
        """The list of the triples (way, come, hours) of the day on which the enders are ahead."""
        enders = [self.come(number) for number in range(self.many)]
        return self.common(self.cleared + 1, enders) + self.blocks(self.first, self.seen + 1, self.cleared)

    def common(self, begin, enders):
        """The list of the triples of the letters of both days; runners pass from this tick on, enders at these."""
        found = [(self.running, self.come(number), self.runner(number, begin)) for number in range(self.many)]
        for number, hour in enumerate(enders):
            home = self.seen + 1 + number // self.end_pace + self.web.times[self.first]
            found.append((self.ending, self.come(number), (hour, home)))
        for tick in range(1, self.until + 1):
            others = min(self.pace, self.many - (tick - 1) * self.pace)
            found += single(self.first, tick, self.web.rooms[self.first] - others)
        return found + self.blocks(self.first, self.until + 1, self.seen)

    def come(self, number):
        """The tick at which a runner and an ender come."""
        return 1 + number // self.pace

    def runner(self, number, begin):
        """The hours of a runner, the first of whom is passed at this tick."""
        hours = [begin - 1 + self.come(number)]
        for road in self.running[:-2]:
            hours.append(hours[-1] + self.web.times[road])
        if self.first == self.last:
            # The enders need the rooms of the road that both pass.
            hours[-1] = max(hours[-1], self.cleared + 1)
        return tuple(hours) + (self.home + number // self.home_pace,)

    def blocks(self, road, begin, end):
        """The list of the triples of letters that leave the road no room from a tick to another."""
        found = []
        for tick in range(begin, end + 1):
            found += single(road, tick, self.web.rooms[road])
        return found


def single(road, tick, many):
    """The list of the triples of so many letters that come to the road, and are home there, at the tick."""
    return [((road,), tick, (tick,)) for _ in range(many)]
