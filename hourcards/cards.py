"""Cards: what each letter bears of the day that was led (3)."""

from hourcards.checks import is_from, is_integer, is_tuple
from hourcards.days import are_hours
from hourcards.errors import NoHours, NoLot, NoSort, NoTick, OtherWeb
from hourcards.webs import is_lot, is_way

SORTS = ("hours", "turns")


def is_sort(thing):
    """Whether it is a sort of cards."""
    return isinstance(thing, str) and thing in SORTS


def check_lot_and_sort(web, lot, sort):
    """Raises what is wrong with them, the lot ahead of the sort."""
    if not is_lot(web, lot):
        raise NoLot()
    if not is_sort(sort):
        raise NoSort()


def cards(day, lot, sort):
    """The tuple of the cards of all letters."""
    check_lot_and_sort(day.web, lot, sort)
    return cards_of(day, lot, sort)


def cards_of(day, lot, sort):
    """The cards of all letters, for what is a lot and a sort."""
    # Other files have arguments called cards, and take the cards of a day by this name.
    rows = turns_of(day) if sort == "turns" else day.hours
    found = []
    for (way, come), hours, row in zip(day.letters, day.hours, rows):
        found.append((way, come, hours[-1], told_of(lot, way, row)))
    return tuple(found)


def told_of(lot, way, row):
    """What a card tells of a row with an item for each place: the items at the told roads."""
    return tuple([item if road in lot else None for road, item in zip(way, row)])


def turns_of(day):
    """The list of the turns of all letters, a list with a turn for each place."""
    passings = []
    for letter, ((way, _), row) in enumerate(zip(day.letters, day.hours)):
        for place, (road, hour) in enumerate(zip(way, row)):
            passings.append((road, hour, letter, place))
    turns = [[0 for _ in row] for row in day.hours]
    done = [0 for _ in day.web.roads]
    for road, _, letter, place in sorted(passings):
        turns[letter][place] = done[road]
        done[road] += 1
    return turns


def are_cards(web, lot, sort, thing):
    """Whether it is a tuple of cards for the web, the lot and the sort."""
    check_lot_and_sort(web, lot, sort)
    return isinstance(thing, tuple) and all([is_card(web, lot, sort, card) for card in thing])


def is_card(web, lot, sort, thing):
    """Whether it is a card, with hours that a letter alone could have."""
    if not is_tuple(4, thing):
        return False
    way, come, home, told = thing
    if not (is_way(web, way) and is_from(1, come) and is_integer(home) and is_told(lot, way, told)):
        return False
    steps = [web.times[road] for road in way]
    if sort == "hours":
        return is_alone(steps, come, told, home)
    return all([turn is None or turn >= 0 for turn in told]) and home >= come + sum(steps[:-1])


def is_told(lot, way, thing):
    """Whether it is a tuple with an integer at each told place of the way, and None at the others."""
    return is_tuple(len(way), thing) and all([
        is_integer(item) if road in lot else item is None for road, item in zip(way, thing)])


def is_alone(steps, come, told, last):
    """Whether a letter alone, with so many ticks from each place to the next, could have these hours, and this last."""
    first = come
    for hour, ahead in zip(told, [0] + steps):
        first += ahead
        if hour is not None:
            if hour < first:
                return False
            first = hour
    return last >= first if told[-1] is None else last == told[-1]


def alike(day, other, lot, sort, tick):
    """Whether the letters that come up to the tick have the same numbers and the same cards in both days."""
    if day.web != other.web:
        raise OtherWeb()
    check_lot_and_sort(day.web, lot, sort)
    if not is_from(1, tick):
        raise NoTick()
    return come_by(cards_of(day, lot, sort), tick) == come_by(cards_of(other, lot, sort), tick)


def come_by(bearers, tick):
    """The pairs (letter, card) of those of these cards that come up to the tick, in the order of the letters."""
    return tuple([(letter, card) for letter, card in enumerate(bearers) if card[1] <= tick])


def late(cards, hours):
    """The list of the pairs (letter, ticks) of those that are home behind the home hour of their card."""
    if not are_hours([card[:2] for card in cards], hours):
        raise NoHours()
    behind = [row[-1] - card[2] for card, row in zip(cards, hours)]
    return [(letter, ticks) for letter, ticks in enumerate(behind) if ticks > 0]
