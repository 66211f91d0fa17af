"""Halls: the rule that plays each day again from its cards, if the lot is enough (5)."""

from hourcards.cards import are_cards, is_card
from hourcards.days import first_tick, hours_so_far
from hourcards.errors import NoCard, NoCards, NotEnough, NothingDone
from hourcards.kinds import bad_places, kinds


class Board:
    """What stands in a hall: the tick, the letters with their hours so far, and the steps that can be taken back."""

    def __init__(self, roads):
        self.clock = 1
        self.bearers = []
        self.ranks = []
        self.rows = []
        self.out = {}
        self.done = [0 for _ in range(roads)]
        self.steps = []

    def copy(self):
        """Another board with the same on it."""
        # What stands in the lists and the dict never changes, so they alone are copied.
        other = Board(0)
        other.clock = self.clock
        other.bearers = list(self.bearers)
        other.ranks = list(self.ranks)
        other.rows = list(self.rows)
        other.out = {letter: place for letter, place in self.out.items()}
        other.done = list(self.done)
        other.steps = list(self.steps)
        return other


class Hall:
    """A day played again, led live by a rule that needs nothing but the cards of those who have come."""

    def __init__(self, web, lot, sort):
        places = bad_places(web, lot, sort)
        if places:
            raise NotEnough(places[0])
        self.web = web
        self.lot = lot
        self.sorting = sort
        self.kinds = kinds(web, lot, sort)
        self.board = Board(len(web.roads))

    def now(self):
        """The tick at which the clock stands."""
        return self.board.clock

    def come(self, card):
        """A letter with this card comes at this tick."""
        board = self.board
        if not is_card(self.web, self.lot, self.sorting, card) or card[1] != board.clock:
            raise NoCard()
        board.bearers.append(card)
        board.ranks.append(ranks_of(self, card))
        board.rows.append(())
        settle(self, len(board.rows) - 1)
        board.steps.append(None)

    def tick(self):
        """The roads pass letters, and the clock goes on; the ascending list of the pairs (road, letter)."""
        board = self.board
        passed = passed_now(self)
        for road, letter in passed:
            board.rows[letter] = board.rows[letter] + (board.clock,)
            settle(self, letter)
            board.done[road] += 1
        board.clock += 1
        board.steps.append(tuple(passed))
        return passed

    def waiting(self):
        """The ascending list of the pairs (road, letter) of those that may be passed now."""
        board = self.board
        return sorted([(road, letter) for letter, (road, first) in board.out.items() if first <= board.clock])

    def so_far(self):
        """The hours of all letters that have come, with None where they were not passed so far."""
        return hours_so_far(self.board.bearers, self.board.rows)

    def left(self):
        """How many letters are not home."""
        return len(self.board.out)

    def back(self):
        """Takes back the last come or tick that is not taken back."""
        board = self.board
        if not board.steps:
            raise NothingDone()
        step = board.steps.pop()
        if step is None:
            board.bearers.pop()
            board.ranks.pop()
            board.rows.pop()
            del board.out[len(board.rows)]
            return
        board.clock -= 1
        for road, letter in step:
            board.rows[letter] = board.rows[letter][:-1]
            settle(self, letter)
            board.done[road] -= 1

    def depth(self):
        """How many comes and ticks can be taken back."""
        return len(self.board.steps)

    def copy(self):
        """Another hall that goes on apart."""
        other = Hall(self.web, self.lot, self.sorting)
        other.board = self.board.copy()
        return other

    def trying(self, action):
        """What the action returns, called with the hall, of which nothing stays done."""
        kept = self.board
        self.board = kept.copy()
        try:
            return action(self)
        finally:
            self.board = kept


def settle(hall, letter):
    """Notes the road at which the letter is passed next and the first tick at which it may be, unless it is home."""
    board = hall.board
    card = board.bearers[letter]
    row = board.rows[letter]
    if len(row) == len(card[0]):
        del board.out[letter]
    else:
        board.out[letter] = (card[0][len(row)], first_tick(hall.web, card[:2], row))


def ranks_of(hall, card):
    """The list, for each place, of the pair (whether it ends where others may go on, by what it is ranked there)."""
    way, _, home, told = card
    ranks = []
    due = home
    for place in reversed(range(len(way))):
        road = way[place]
        kind = hall.kinds[road]
        ends = place == len(way) - 1
        if not ends:
            due -= hall.web.times[road]
        if hall.sorting == "hours" and kind == "told":
            due = told[place]
        by = due
        if hall.sorting == "turns" and kind == "told":
            by = told[place]
        elif kind == "queue" and not ends:
            by = told[place + 1]
        ranks.append((ends and kind in ("queue", "first"), by))
    return ranks[::-1]


def passed_now(hall):
    """The ascending list of the pairs (road, letter) that the rule passes at this tick."""
    here = {}
    for road, letter in hall.waiting():
        here.setdefault(road, []).append(letter)
    passed = []
    for road, letters in here.items():
        if hall.sorting == "turns" and hall.kinds[road] == "told":
            chosen = in_turn(hall, road, letters)
        else:
            chosen = in_rank(hall, road, letters)
        passed += [(road, letter) for letter in chosen]
    return sorted(passed)


def rank_now(hall, letter):
    """The pair by which the letter is ranked at the road at which it waits."""
    board = hall.board
    return board.ranks[letter][len(board.rows[letter])]


def in_turn(hall, road, letters):
    """Those of the letters whose turns are next at the road, as many as it has rooms at most."""
    turns = {rank_now(hall, letter)[1]: letter for letter in letters}
    chosen = []
    turn = hall.board.done[road]
    while len(chosen) < hall.web.rooms[road] and turn in turns:
        chosen.append(turns[turn])
        turn += 1
    return chosen


def in_rank(hall, road, letters):
    """Those of the letters that are most pressing at the road, as many as it has rooms."""
    pressing = sorted([(urgency(rank_now(hall, letter), hall.board.clock), letter) for letter in letters])
    return [letter for _, letter in pressing[:hall.web.rooms[road]]]


def urgency(rank, clock):
    """A pair, the less the more pressing."""
    ends, by = rank
    if not ends:
        return 1, by
    # On the day this letter took its room at just its home hour; until then the rooms are for those that go on.
    return (0, by) if by <= clock else (2, by)


def played(web, lot, sort, cards):
    """The hours that a hall tells of letters with these cards, or None if some are never home."""
    hall = Hall(web, lot, sort)
    if not are_cards(web, lot, sort, cards):
        raise NoCards()
    coming = sorted([(card[1], letter) for letter, card in enumerate(cards)])
    order = [letter for _, letter in coming]
    if not lead(hall, [cards[letter] for letter in order]):
        return None
    rows = sorted([(letter, row) for letter, row in zip(order, hall.so_far())])
    return tuple([row for _, row in rows])


def lead(hall, bearers):
    """Leads the hall, with these cards that come in this order, until all are home; whether they ever are."""
    board = hall.board
    many = 0
    moved = True
    while many < len(bearers) or hall.left():
        ticks = next_ticks(hall, moved) + [card[1] for card in bearers[many:many + 1]]
        if not ticks:
            return False
        # Ticks at which nothing can happen are left out: a letter may come millions of ticks later.
        board.clock = min(ticks)
        while many < len(bearers) and bearers[many][1] == board.clock:
            hall.come(bearers[many])
            many += 1
        moved = len(hall.tick()) > 0
    return True


def next_ticks(hall, moved):
    """The list of the ticks, from now on, at which letters that have come may next be passed."""
    clock = hall.board.clock
    # If nobody was passed, those who wait for their turns wait on until somebody else is there.
    return [max(first, clock) for _, first in hall.board.out.values() if moved or first >= clock]


def missed(web, lot, sort, cards):
    """None if all pass by the hours that the cards tell, otherwise the pairs (letter, place) at which they do not."""
    hours = played(web, lot, sort, cards)
    if hours is None:
        return [(letter, len(card[0]) - 1) for letter, card in enumerate(cards)]
    found = []
    for letter, (card, row) in enumerate(zip(cards, hours)):
        told = list(card[3]) if sort == "hours" else [None for _ in row]
        told[-1] = card[2]
        found += [(letter, place) for place, hour in enumerate(row) if told[place] is not None and hour > told[place]]
    return found if found else None
