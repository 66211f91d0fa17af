"""Strangers: rules of others, asked whom each road passes, and led into the day that they lose (7)."""

from hourcards.cards import SORTS, are_cards, cards_of, come_by
from hourcards.checks import is_from, is_integer, is_tuple
from hourcards.days import first_tick, hours_so_far
from hourcards.errors import NoCards, NoChoice, NoNumber
from hourcards.traps import trap
from hourcards.webs import is_way

TICKS_MORE = 20


class Lead:
    """Letters with cards that a stranger leads, who sees so many ticks ahead."""

    def __init__(self, web, bearers, ahead, choose):
        self.web = web
        self.bearers = bearers
        self.ahead = ahead
        self.choose = choose
        self.clock = 1
        self.past = ()
        self.rows = [() for _ in bearers]

    def places(self):
        """The list of the triples (road, letter, first tick at which it may be passed there) of those not home."""
        found = []
        for letter, (card, row) in enumerate(zip(self.bearers, self.rows)):
            if len(row) < len(card[0]):
                found.append((card[0][len(row)], letter, first_tick(self.web, card[:2], row)))
        return found

    def lead_to(self, last):
        """Asks the stranger up to this tick."""
        places = self.places()
        while places:
            # At ticks at which nobody may be passed there is nothing to ask.
            tick = max(self.clock, min([first for _, _, first in places]))
            if tick > last:
                return
            self.pass_at(tick, sorted([(road, letter) for road, letter, first in places if first <= tick]))
            places = self.places()

    def pass_at(self, tick, pairs):
        """Asks the stranger about these pairs (road, letter), ascending, of those who may be passed at the tick."""
        here = {}
        for road, letter in pairs:
            here.setdefault(road, []).append(letter)
        seen = come_by(self.bearers, tick + self.ahead)
        choose = self.choose
        passed = []
        for road, letters in here.items():
            chosen = choose(road, tick, tuple(letters), seen, self.past)
            if not is_choice(self.web.rooms[road], letters, chosen):
                raise NoChoice(road, tick)
            passed += [(tick, road, letter) for letter in sorted(chosen)]
        for _, _, letter in passed:
            self.rows[letter] = self.rows[letter] + (tick,)
        self.past = self.past + tuple(passed)
        self.clock = tick + 1

    def so_far(self):
        """The hours of all letters, with None where they were not passed."""
        return hours_so_far(self.bearers, self.rows)

    def is_home(self, letter):
        """Whether the letter is home."""
        return len(self.rows[letter]) == len(self.bearers[letter][0])


def is_choice(rooms, letters, thing):
    """Whether it is a list or tuple of different ones of the letters, not more than the rooms."""
    return (isinstance(thing, (list, tuple)) and len(thing) <= rooms
            and all([is_integer(letter) and letter in letters for letter in thing])
            and len(set(thing)) == len(thing))


def stranger_hours(web, cards, ahead, choose):
    """The hours of letters with these cards that a stranger leads, until some ticks behind the greatest home hour."""
    if not are_some_cards(web, cards):
        raise NoCards()
    if not is_from(0, ahead):
        raise NoNumber()
    leading = Lead(web, cards, ahead, choose)
    leading.lead_to(max([card[2] for card in cards], default=0) + TICKS_MORE)
    return leading.so_far()


def are_some_cards(web, thing):
    """Whether it is a tuple of cards for some lot and sort."""
    if not isinstance(thing, tuple):
        return False
    told = {}
    for card in thing:
        if is_tuple(4, card) and is_way(web, card[0]) and is_tuple(len(card[0]), card[3]):
            for road, item in zip(card[0], card[3]):
                if item is not None:
                    told[road] = True
    # All roads at which some card tells something are told, or they are cards for no lot.
    lot = tuple(sorted(told))
    return any([are_cards(web, lot, sort, thing) for sort in SORTS])


def beaten(web, lot, sort, place, ahead, late, choose):
    """A day of a trap, the hours that the stranger leads there up to a tick, and a letter that is too late then."""
    day, other, _ = trap(web, lot, sort, place, ahead, late)
    for led in (day, other):
        bearers = cards_of(led, lot, sort)
        leading = Lead(web, bearers, ahead, choose)
        for last, letter in sorted([(card[2] + late - 1, letter) for letter, card in enumerate(bearers)]):
            leading.lead_to(last)
            if not leading.is_home(letter):
                return led, leading.so_far(), letter
    # A stranger who gives the same for equal arguments never comes here: one of the days beats it.
    return None
