"""Days: letters that come, and the hours at which the roads pass them (part 2)."""

from hourcards.checks import are_integers, is_between, is_integer, is_pair
from hourcards.errors import BadDay, NoHolds, NoLetters, NoNumber, NoNumbers, NoRanks, NoTick, OtherWeb
from hourcards.webs import is_way

MOST_LETTERS = 60
LAST_TICK = 1000000


class Day:
    """Letters on a web, with the hour of each of them at each place of its way."""

    def __init__(self, web, letters, hours):
        if not are_letters(web, letters):
            raise BadDay("letters")
        if not are_hours(letters, hours):
            raise BadDay("hours")
        if some_early(web, letters, hours):
            raise BadDay("early")
        if some_full(web, letters, hours):
            raise BadDay("full")
        self.web = web
        self.letters = letters
        self.hours = hours

    def __eq__(self, other):
        return (isinstance(other, Day) and self.web == other.web and self.letters == other.letters
                and self.hours == other.hours)


def is_letter(web, thing):
    """Whether it is a pair of a way and a tick at which a letter may come."""
    return is_pair(thing) and is_way(web, thing[0]) and is_between(1, LAST_TICK, thing[1])


def are_letters(web, thing):
    """Whether it is a tuple of letters, not too many."""
    return (isinstance(thing, tuple) and len(thing) <= MOST_LETTERS
            and all([is_letter(web, letter) for letter in thing]))


def are_hours(letters, thing):
    """Whether it is a tuple with a tuple for each letter, and in it an integer for each place of its way."""
    return (isinstance(thing, tuple) and len(thing) == len(letters)
            and all([are_integers(len(way), row) for (way, _), row in zip(letters, thing)]))


def first_ticks(web, letter, row):
    """The list of the ticks from which on a letter with this row of hours may be passed, for each place."""
    way, come = letter
    return [come] + [hour + web.times[road] for road, hour in zip(way, row[:-1])]


def first_tick(web, letter, row):
    """The tick from which on a letter with this row of hours so far may be passed by its next road."""
    way, come = letter
    return row[-1] + web.times[way[len(row) - 1]] if row else come


def hours_so_far(letters, rows):
    """The hours of letters, or of what else begins with a way, that have these rows so far, with None behind them."""
    return tuple([row + (None,) * (len(letter[0]) - len(row)) for letter, row in zip(letters, rows)])


def some_early(web, letters, hours):
    """Whether some hour is earlier than may be."""
    for letter, row in zip(letters, hours):
        if any([hour < first for hour, first in zip(row, first_ticks(web, letter, row))]):
            return True
    return False


def some_full(web, letters, hours):
    """Whether some road passes more letters at a tick than it has rooms."""
    passed = {}
    for (way, _), row in zip(letters, hours):
        for road, hour in zip(way, row):
            passed[(road, hour)] = passed.get((road, hour), 0) + 1
    return any([many > web.rooms[road] for (road, _), many in passed.items()])


def day_of_any_size(web, letters, hours):
    """The day of these letters and hours, that are right but for their sizes."""
    # A day that is returned may have more letters, and later ones, than Day lets in from outside.
    day = Day(web, (), ())
    day.letters = letters
    day.hours = hours
    return day


def waiting(day, tick):
    """The ascending list of the pairs (road, letter) of those that may be passed at the tick and have not been yet."""
    if not is_integer(tick) or tick < 1:
        raise NoTick()
    found = []
    for number, (letter, row) in enumerate(zip(day.letters, day.hours)):
        for road, first, hour in zip(letter[0], first_ticks(day.web, letter, row), row):
            if first <= tick <= hour:
                found.append((road, number))
    return sorted(found)


def made_day(web, letters, ranks, holds):
    """The day on which each road passes those with the least ranks first, but nobody ahead of a hold."""
    if not are_letters(web, letters):
        raise NoLetters()
    if not are_integers(len(letters), ranks):
        raise NoRanks()
    if not are_holds(letters, holds):
        raise NoHolds()
    ranked = sorted([(rank, number) for number, rank in enumerate(ranks)])
    hours = led_hours(web, letters, [number for _, number in ranked], holds)
    return day_of_any_size(web, letters, tuple([tuple(row) for row in hours]))


def is_place(letters, thing):
    """Whether it is a pair of the number of a letter and of a place of its way."""
    return (is_pair(thing) and is_between(0, len(letters) - 1, thing[0])
            and is_between(0, len(letters[thing[0]][0]) - 1, thing[1]))


def are_holds(letters, thing):
    """Whether it is a dict from places of the letters to ticks."""
    return isinstance(thing, dict) and all([
        is_place(letters, place) and is_between(1, LAST_TICK, tick) for place, tick in thing.items()])


def led_hours(web, letters, order, holds):
    """The hours, a list of lists, if each road passes those that stand first in the order."""
    hours = [[] for _ in letters]
    waits = {number: next_wait(web, letters, holds, number, []) for number in order}
    tick = 0
    while waits:
        # Ticks at which nobody may be passed are left out: a hold may be a million ticks ahead.
        tick = max(tick + 1, min([first for first, _ in waits.values()]))
        passed = passed_at(web, order, waits, tick)
        for number in passed:
            hours[number].append(tick)
            del waits[number]
            if len(hours[number]) < len(letters[number][0]):
                waits[number] = next_wait(web, letters, holds, number, hours[number])
    return hours


def next_wait(web, letters, holds, number, row):
    """The pair of the tick from which on a letter with this row of hours so far may be passed and the road there."""
    place = len(row)
    first = first_tick(web, letters[number], row)
    return max(first, holds.get((number, place), 1)), letters[number][0][place]


def passed_at(web, order, waits, tick):
    """The list of the letters that the roads pass at the tick."""
    used = [0 for _ in web.roads]
    passed = []
    for number in order:
        if number in waits:
            first, road = waits[number]
            if first <= tick and used[road] < web.rooms[road]:
                used[road] += 1
                passed.append(number)
    return passed


def without(day, numbers):
    """The day without the letters of these numbers."""
    if not isinstance(numbers, (list, tuple)):
        raise NoNumbers()
    if not all([is_between(0, len(day.letters) - 1, number) for number in numbers]):
        raise NoNumbers()
    kept = [number for number in range(len(day.letters)) if number not in numbers]
    letters = tuple([day.letters[number] for number in kept])
    return day_of_any_size(day.web, letters, tuple([day.hours[number] for number in kept]))


def shifted(day, by):
    """The day with all ticks and hours so many later."""
    if not is_integer(by) or any([come + by < 1 for _, come in day.letters]):
        raise NoNumber()
    letters = tuple([(way, come + by) for way, come in day.letters])
    hours = tuple([tuple([hour + by for hour in row]) for row in day.hours])
    return day_of_any_size(day.web, letters, hours)


def laid_over(day, other):
    """The day of the letters of the one, then those of the other, or None if some road would pass too many."""
    if day.web != other.web:
        raise OtherWeb()
    letters = day.letters + other.letters
    hours = day.hours + other.hours
    if some_full(day.web, letters, hours):
        return None
    return day_of_any_size(day.web, letters, hours)
