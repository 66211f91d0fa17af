"""Roots: trees of roads whose letters end at the root (10)."""

from hourcards.cards import is_card
from hourcards.days import led_hours
from hourcards.errors import NoCards, NotRooted


def root(web):
    """The house to which one comes from each other house, along the one road that begins there, or None."""
    ends = {begin: end for begin, end in web.roads}
    last = [house for house in range(web.houses) if house not in ends]
    # So many houses with a road and so many roads: no house has two.
    if len(last) != 1 or len(web.roads) != web.houses - 1:
        return None
    found = last[0]
    for house in range(web.houses):
        at = house
        for _ in web.roads:
            at = ends.get(at, found)
        if at != found:
            return None
    return found


def root_hours(web, cards):
    """The hours of letters whose ways end at the root, if each road passes those with the least home hours first."""
    end = root(web)
    if end is None:
        raise NotRooted()
    if not isinstance(cards, tuple) or not all([is_root_card(web, end, card) for card in cards]):
        raise NoCards()
    ranked = sorted([(card[2], letter) for letter, card in enumerate(cards)])
    hours = led_hours(web, [card[:2] for card in cards], [letter for _, letter in ranked], {})
    return tuple([tuple(row) for row in hours])


def is_root_card(web, end, thing):
    """Whether it is a card for the empty lot with a way that ends at this house."""
    # Of the empty lot the cards of both sorts are the same.
    return is_card(web, (), "hours", thing) and web.roads[thing[0][-1]][1] == end
