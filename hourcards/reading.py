"""Texts read as webs and days (13)."""

from hourcards.days import Day
from hourcards.errors import BadText
from hourcards.webs import Web

FIGURES = "0123456789"
MOST_FIGURES = 9
# What may stand behind a line of each kind; nothing stands ahead of the first one.
BEHIND = {"": ("web",), "web": ("road",), "road": ("road", "letter"), "letter": ("letter",)}


def read_web(text):
    """The web of which this is the text."""
    return web_of(rows_of(text, ("web", "road")))


def read_day(text):
    """The day of which this is the text."""
    rows = rows_of(text, ("web", "road", "letter"))
    web = web_of(rows)
    told = [numbers for word, numbers in rows if word == "letter"]
    letters = tuple([(tuple(numbers[1::2]), numbers[0]) for numbers in told])
    return Day(web, letters, tuple([tuple(numbers[2::2]) for numbers in told]))


def web_of(rows):
    """The web of these rows of a text."""
    roads = [numbers for word, numbers in rows if word == "road"]
    return Web(
        rows[0][1][0], tuple([(begin, end) for begin, end, _, _ in roads]),
        tuple([rooms for _, _, rooms, _ in roads]), tuple([time for _, _, _, time in roads]))


def rows_of(text, words):
    """The list of the pairs (word, list of numbers) of the lines of a text that has lines with these words alone."""
    if not isinstance(text, str):
        raise BadText(0)
    lines = text.split("\n")
    rows = []
    last = ""
    for number, line in enumerate(lines[:-1], start=1):
        word, *rest = line.split(" ")
        if word not in words or word not in BEHIND[last] or not is_form(word, rest):
            raise BadText(number)
        rows.append((word, [int(figures) for figures in rest]))
        last = word
    if lines[-1] != "" or last in ("", "web"):
        raise BadText(len(lines))
    return rows


def is_form(word, rest):
    """Whether a line with this first word may have this rest of words."""
    if not all([is_number(figures) for figures in rest]):
        return False
    if word == "letter":
        return len(rest) > 1 and len(rest) & 1 == 1
    return len(rest) == (1 if word == "web" else 4)


def is_number(word):
    """Whether it is a number, decimal and without a needless zero, not too long."""
    return (1 <= len(word) <= MOST_FIGURES and all([sign in FIGURES for sign in word])
            and (word == "0" or not word.startswith("0")))
