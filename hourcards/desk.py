"""The desk: webs and days kept under names, asked by lines (14)."""

from hourcards.cards import cards, is_sort
from hourcards.errors import NoLine, NoName, NothingDone
from hourcards.halls import missed
from hourcards.kinds import bad_places, kinds
from hourcards.lots import least_size
from hourcards.reading import is_number, read_day, read_web

SMALL_LETTERS = "abcdefghijklmnopqrstuvwxyz"
LONGEST_NAME = 8
# What stands behind the first word of a line.
FORMS = {
    "web": ("name", "text"), "day": ("name", "text"), "drop": ("name",), "names": (), "enough": ("name", "lot", "sort"),
    "kinds": ("name", "lot", "sort"), "least": ("name", "sort"), "played": ("name", "lot", "sort"), "undo": (),
}


def words_of(line):
    """The list of the words of a line, of which a text is one."""
    if not isinstance(line, str) or "\n" in line:
        raise NoLine()
    words = line.split(" ")
    if words[0] not in FORMS:
        raise NoLine()
    forms = FORMS[words[0]]
    if "text" in forms:
        words = line.split(" ", 2)
    if len(words) != len(forms) + 1 or not all([is_form(form, word) for form, word in zip(forms, words[1:])]):
        raise NoLine()
    return words


def is_form(form, word):
    """Whether the word has this form."""
    if form == "name":
        return 1 <= len(word) <= LONGEST_NAME and all([sign in SMALL_LETTERS for sign in word])
    if form == "sort":
        return is_sort(word)
    if form == "lot":
        return word == "-" or all([is_number(figures) for figures in word.split(",")])
    return len(word) > 0


def lot_of(word):
    """The lot, or what else this word for a lot tells."""
    return () if word == "-" else tuple([int(figures) for figures in word.split(",")])


def kept_as(kept, name):
    """What is kept under the name."""
    if name not in kept:
        raise NoName(name)
    return kept[name]


def lay(kept, name, thing):
    """Lays the thing under the name, None for nothing."""
    if thing is not None:
        kept[name] = thing
    elif name in kept:
        del kept[name]


def tell_web(desk, name, text):
    """Keeps the web of the text under the name."""
    web = read_web(text.replace("|", "\n"))
    desk.keep(name, web, desk.days.get(name))
    return "ok"


def tell_day(desk, name, text):
    """Keeps the day of the text under the name."""
    day = read_day(text.replace("|", "\n"))
    desk.keep(name, desk.webs.get(name), day)
    return "ok"


def tell_drop(desk, name):
    """Drops what is kept under the name."""
    if name not in desk.webs and name not in desk.days:
        raise NoName(name)
    desk.keep(name, None, None)
    return "ok"


def tell_names(desk):
    """The names of the webs."""
    return " ".join(sorted(desk.webs)) if desk.webs else "none"


def tell_enough(desk, name, word, sort):
    """Whether the lot is enough for the web, or else its first bad place."""
    places = bad_places(kept_as(desk.webs, name), lot_of(word), sort)
    return " ".join([str(part) for part in places[0]]) if places else "yes"


def tell_kinds(desk, name, word, sort):
    """The kinds for the web and the lot."""
    found = kinds(kept_as(desk.webs, name), lot_of(word), sort)
    return "none" if found is None else " ".join(found)


def tell_least(desk, name, sort):
    """The least size of a lot that is enough for the web."""
    return str(least_size(kept_as(desk.webs, name), sort))


def tell_played(desk, name, word, sort):
    """Whether the day is played again."""
    day = kept_as(desk.days, name)
    lot = lot_of(word)
    return "yes" if missed(day.web, lot, sort, cards(day, lot, sort)) is None else "no"


def tell_undo(desk):
    """Takes back the last change."""
    if not desk.changes:
        raise NothingDone()
    name, web, day = desk.changes.pop()
    desk.put(name, web, day)
    return "ok"


ACTIONS = {
    "web": tell_web, "day": tell_day, "drop": tell_drop, "names": tell_names, "enough": tell_enough,
    "kinds": tell_kinds, "least": tell_least, "played": tell_played, "undo": tell_undo,
}


class Desk:
    """Webs and days under names; changes has what was kept under a name ahead of each line that can be taken back."""

    def __init__(self):
        self.webs = {}
        self.days = {}
        self.changes = []

    def tell(self, line):
        """Does one line and returns what it answers."""
        word, *rest = words_of(line)
        action = ACTIONS[word]
        return action(self, *rest)

    def undoable(self):
        """How many lines can be taken back."""
        return len(self.changes)

    def keep(self, name, web, day):
        """Keeps these under the name from now on, None for nothing, so that it can be taken back."""
        self.changes.append((name, self.webs.get(name), self.days.get(name)))
        self.put(name, web, day)

    def put(self, name, web, day):
        """Lays these under the name, None for nothing."""
        lay(self.webs, name, web)
        lay(self.days, name, day)
