"""The desk (14)."""

import random
import re
import unittest

from hourcards import desk as module
from hourcards.cards import cards
from hourcards.days import Day
from hourcards.desk import Desk
from hourcards.errors import BadDay, BadText, BadWeb, HourError, NoLine, NoLot, NoName, NotEnough, NothingDone
from hourcards.halls import missed
from hourcards.kinds import bad_places, kinds
from hourcards.lots import least_size
from hourcards.reading import read_day, read_web
from hourcards.texts import day_text, web_text
from tests.drawn import drawn_day, drawn_web
from tests.samples import DAY, FORK, FOUR, LINE, ODD, RING, name_of, nested


def bars(text):
    return text.replace("\n", "|")


WEB = bars(web_text(FOUR))
OTHER = bars(web_text(RING))
DAYS = bars(day_text(DAY))
# Letter 0 has to be ahead of letter 1 at road 0, which no card tells if no road is told.
LATE = Day(FOUR, (((0, 1, 2, 3), 1), ((0, 1), 1), ((2,), 4), ((2,), 5)), ((1, 2, 3, 6), (2, 3), (4,), (5,)))


def told(error):
    return type(error).__name__, vars(error)


class Desks(unittest.TestCase):

    def assert_error(self, desk, words, error, **fields):
        """The line raises the error, and nothing is changed."""
        before = state_of(desk)
        with self.subTest(name_of(words)):
            with self.assertRaises(HourError) as caught:
                desk.tell(words)
            self.assertEqual(told(caught.exception), (error.__name__, fields))
            self.assertEqual(state_of(desk), before)

    def desk(self, *lines):
        desk = Desk()
        for line in lines:
            self.assertEqual(desk.tell(line), "ok", line)
        return desk

    def test_by_hand(self):
        desk = Desk()
        self.assertEqual((desk.tell("names"), desk.undoable()), ("none", 0))
        self.assertEqual((desk.tell("web w " + WEB), desk.tell("web ring " + OTHER), desk.tell("day d " + DAYS)), ("ok",) * 3)
        self.assertEqual((desk.tell("names"), desk.undoable()), ("ring w", 3))
        self.assertEqual(desk.tell("enough w - hours"), "row 0 1 2")
        self.assertEqual(desk.tell("enough w 1 hours"), "yes")
        self.assertEqual(desk.tell("enough w 2 hours"), "yes")
        self.assertEqual(desk.tell("enough w 2 turns"), "row 0 1 2")
        self.assertEqual(desk.tell("enough ring 0 turns"), "row 1 2 0")
        self.assertEqual(desk.tell("kinds w - hours"), "none")
        self.assertEqual(desk.tell("kinds w 1 hours"), "second told second end")
        self.assertEqual(desk.tell("kinds w 1,3 turns"), "queue told second told")
        self.assertEqual(desk.tell("kinds w 0,1,2,3 turns"), "told told told told")
        self.assertEqual((desk.tell("least w hours"), desk.tell("least ring hours"), desk.tell("least ring turns")), ("1", "1", "2"))
        self.assertEqual((desk.tell("played d - hours"), desk.tell("played d 0 turns")), ("yes", "yes"))
        # What only asks is not to be taken back.
        self.assertEqual(desk.undoable(), 3)

    def test_forks_are_told_by_their_words(self):
        desk = self.desk("web f " + bars(web_text(FORK)))
        self.assertEqual(desk.tell("enough f - hours"), "fork 0 2")
        self.assertEqual(desk.tell("enough f 0 turns"), "fork 1 2")
        self.assertEqual(desk.tell("enough f 0,1 turns"), "yes")

    def test_words_of_one_name(self):
        # Webs and days are kept apart.
        desk = self.desk("web a " + WEB, "day a " + DAYS)
        self.assertEqual((desk.tell("names"), desk.tell("least a hours"), desk.tell("played a - hours")), ("a", "1", "yes"))
        self.assertEqual(desk.tell("drop a"), "ok")
        self.assert_error(desk, "least a hours", NoName, name="a")
        self.assert_error(desk, "played a - hours", NoName, name="a")
        self.assertEqual((desk.undoable(), desk.tell("undo")), (3, "ok"))
        self.assertEqual((desk.tell("least a hours"), desk.tell("played a - hours")), ("1", "yes"))

    def test_a_day_is_no_web(self):
        desk = self.desk("day d " + DAYS, "web w " + WEB)
        self.assertEqual(desk.tell("names"), "w")
        self.assert_error(desk, "enough d - hours", NoName, name="d")
        self.assert_error(desk, "kinds d - hours", NoName, name="d")
        self.assert_error(desk, "least d hours", NoName, name="d")
        self.assert_error(desk, "played w - hours", NoName, name="w")

    def test_drop(self):
        desk = self.desk("web a " + WEB, "day b " + DAYS, "web c " + WEB, "day c " + DAYS)
        for name in ("a", "b", "c"):
            self.assertEqual(desk.tell("drop " + name), "ok")
            self.assert_error(desk, "drop " + name, NoName, name=name)
        self.assertEqual((desk.tell("names"), desk.undoable()), ("none", 7))
        self.assertEqual((desk.tell("undo"), desk.tell("names"), desk.tell("played c - hours")), ("ok", "c", "yes"))
        self.assertEqual((desk.tell("undo"), desk.tell("played b - hours"), desk.tell("names")), ("ok", "yes", "c"))
        self.assertEqual((desk.tell("undo"), desk.tell("names"), desk.undoable()), ("ok", "a c", 4))

    def test_undo_of_a_line_that_took_the_place_of_an_elder_one(self):
        desk = self.desk("web a " + WEB, "web a " + OTHER, "day a " + DAYS, "day a " + bars(day_text(LATE)))
        self.assertEqual(desk.tell("least a turns"), "2")
        self.assert_error(desk, "played a - hours", NotEnough, place=("row", 0, 1, 2))
        self.assertEqual((desk.tell("undo"), desk.tell("played a - hours")), ("ok", "yes"))
        self.assertEqual((desk.tell("undo"), desk.undoable()), ("ok", 2))
        self.assert_error(desk, "played a - hours", NoName, name="a")
        self.assertEqual((desk.tell("least a turns"), desk.tell("undo"), desk.tell("least a turns")), ("2", "ok", "1"))
        self.assertEqual((desk.tell("undo"), desk.tell("names"), desk.undoable()), ("ok", "none", 0))
        self.assert_error(desk, "undo", NothingDone)

    def test_undone_and_done_again(self):
        desk = self.desk("web a " + WEB)
        for _ in range(3):
            self.assertEqual((desk.tell("undo"), desk.undoable(), desk.tell("names")), ("ok", 0, "none"))
            self.assertEqual((desk.tell("web a " + WEB), desk.undoable(), desk.tell("names")), ("ok", 1, "a"))
        # What was taken back is not there to be taken back once more.
        desk.tell("undo")
        self.assert_error(desk, "undo", NothingDone)

    def test_the_same_once_more_is_done_too(self):
        desk = self.desk("web a " + WEB, "web a " + WEB, "day a " + DAYS, "day a " + DAYS)
        self.assertEqual(desk.undoable(), 4)
        for left in (3, 2, 1):
            self.assertEqual((desk.tell("undo"), desk.undoable(), desk.tell("names")), ("ok", left, "a"))

    def test_lines_that_raised_an_error_are_not_to_be_undone(self):
        desk = self.desk("web a " + WEB)
        for line in ("web a web", "web a x", "day a " + WEB + "x", "drop b", "least b hours", "web b web 1|road 0 1 1 1|", "undo me"):
            with self.assertRaises(HourError):
                desk.tell(line)
        self.assertEqual((desk.undoable(), desk.tell("undo"), desk.tell("names")), (1, "ok", "none"))

    def test_the_web_of_a_day_and_no_other_is_asked(self):
        desk = self.desk("web d " + bars(web_text(LINE)), "day d " + DAYS)
        self.assertEqual(desk.tell("played d - hours"), "yes")
        desk.tell("web d " + WEB)
        self.assertEqual((desk.tell("played d - hours"), desk.tell("enough d - hours")), ("yes", "row 0 1 2"))
        desk.tell("drop d")
        desk.tell("day d " + bars(day_text(LATE)))
        desk.tell("web d " + bars(web_text(LINE)))
        self.assert_error(desk, "played d - hours", NotEnough, place=("row", 0, 1, 2))
        self.assertEqual((desk.tell("played d 1 hours"), desk.tell("played d 1 turns")), ("yes", "yes"))

    def test_days_are_always_played_again(self):
        # So "no" is never told: a lot that is enough plays each day again, and another one raises.
        rng = random.Random(141)
        desk = Desk()
        for _ in range(60):
            day = drawn_day(rng, drawn_web(rng), 12)
            desk.tell("day d " + bars(day_text(day)))
            whole = ",".join([str(road) for road in range(len(day.web.roads))])
            self.assertEqual((desk.tell(f"played d {whole} hours"), desk.tell(f"played d {whole} turns")), ("yes", "yes"))

    def test_names(self):
        desk = self.desk("web b " + WEB, "web abcdefgh " + WEB, "web a " + WEB, "web zz " + WEB, "day c " + DAYS, "web ab " + WEB)
        self.assertEqual(desk.tell("names"), "a ab abcdefgh b zz")
        for name in ("abcdefghi", "A", "aB", "a1", "1", "a-", "-", "a_b", "a.", "'", "a|", "\ta"):
            for line in ("web %s " + WEB, "day %s " + DAYS, "drop %s", "enough %s - hours", "kinds %s - hours", "least %s hours",
                         "played %s - hours", "web %s x"):
                self.assert_error(desk, line % name, NoLine)

    def test_no_lines(self):
        desk = self.desk("web w " + WEB, "day d " + DAYS)
        for thing in ODD + [b"names", ["names"], ("names",), {"names": 1}, ("web", "a", WEB), 0, LINE, DAY, desk, NoLine(), Desk,
                            nested(list, 40), nested(tuple, 40), nested(dict, 40)]:
            self.assert_error(desk, thing, NoLine)
        for line in (
                "", " ", "x", "name", "Names", "NAMES", "names ", " names", "names names", "names w", "names  ", "undo ", " undo", "undo w",
                "undo undo", "drop", "drop ", "drop w d", "drop  w", " drop w", "drop w ", "web", "web ", "web w", "web w ", "web  w " + WEB,
                " web w " + WEB, "day", "day d", "day d ", "day  d " + DAYS, "web\tw " + WEB, "web w\t" + WEB, "Web w " + WEB,
                "names\n", "\nnames", "undo\n", "web w " + web_text(FOUR), "web w " + WEB + "\n", "web\nw " + WEB, "\n", "names\r", "names\t",
                "least", "least w", "least w ", "least w hour", "least w hours ", "least w hours hours", "least  w hours", "least w  hours",
                "least w Hours", "least w HOURS", "least w 'hours'", "least w - hours", "least hours", "least w turn", "least w turns\r",
                "enough", "enough w", "enough w -", "enough w hours", "enough w - hour", "enough w - hours ", "enough w  - hours",
                "enough  w - hours", "enough w - - hours", "enough w hours -", "enough w () hours", "enough w -1 hours", "enough w +1 hours",
                "enough w 01 hours", "enough w 00 hours", "enough w 1, hours", "enough w ,1 hours", "enough w , hours", "enough w 1,,2 hours",
                "enough w 1, 2 hours", "enough w 1;2 hours", "enough w 1.2 hours", "enough w -,1 hours", "enough w 1,- hours",
                "enough w -- hours", "enough w 1000000000 hours", "enough w 0,1000000000 hours", "enough w 0x1 hours", "enough w a hours",
                "enough w 0,00 hours", "kinds w -", "kinds w - sort", "kinds - hours", "kinds w -hours", "kinds w 1,2, turns", "played", "played d",
                "played d -", "played d - hour", "played d - hours -", "played d 1, hours", "played  d - hours", "played d -  hours",
                "webs w " + WEB, "undoable", "tell names", "names;", "list", "played d 1 2 hours", "enough w  hours"):
            self.assert_error(desk, line, NoLine)

    def test_texts_that_are_wrong(self):
        desk = self.desk("web w " + WEB, "day d " + DAYS)
        for text, line in (("|" + WEB, 1), (WEB + "|", 6), (WEB.replace("|road 1", "||road 1"), 3), (WEB[:-1], 5), ("x", 1), ("|", 1),
                           ("||", 1), (" ", 1), (" " + WEB, 1), (WEB + " ", 6), (WEB.replace(" ", "  ", 1), 1), ("web 2|", 2), ("web 2", 1),
                           ("-", 1), (WEB.replace("|", "\r|", 1), 1), (WEB.replace("|", "\\n"), 1)):
            self.assert_error(desk, "web w " + text, BadText, line=line)
            self.assert_error(desk, "day d " + text, BadText, line=line)
        self.assert_error(desk, "web w " + DAYS, BadText, line=5)
        self.assert_error(desk, "day d " + DAYS.replace("|letter", "||letter", 1), BadText, line=5)
        self.assert_error(desk, "web w web 1|road 0 1 1 1|", BadWeb, part="houses")
        self.assert_error(desk, "day d web 2|road 0 1 1 9|letter 0 0 1|", BadWeb, part="times")
        self.assert_error(desk, "day d web 2|road 0 1 1 1|letter 1 0 1|letter 1 0 1|", BadDay, part="full")
        self.assert_error(desk, "day d web 2|road 0 1 1 1|letter 2 0 1|", BadDay, part="early")
        # The word of a text that lacks a name is one.
        self.assert_error(desk, "web " + WEB, BadText, line=1)
        # The day of a web's text has no letters.
        self.assertEqual((desk.tell("day e " + WEB), desk.tell("played e 0 hours")), ("ok", "yes"))

    def test_no_line_is_told_ahead_of_no_name_and_of_what_the_functions_raise(self):
        desk = self.desk("web w " + WEB, "day d " + bars(day_text(LATE)))
        for line in ("enough x - hours", "kinds x 9 hours", "least x turns", "played x 9,9 turns", "drop x"):
            self.assert_error(desk, line, NoName, name="x")
        self.assert_error(desk, "enough x 9 hour", NoLine)
        self.assert_error(desk, "played x 9, hours", NoLine)
        self.assert_error(desk, "web X web 1|", NoLine)
        for lot in ("4", "0,4", "1,0", "1,1", "0,0", "2,1,0", "999999999", "0,1,2,3,4", "3,3"):
            for sort in ("hours", "turns"):
                for line in ("enough w", "kinds w", "played d"):
                    self.assert_error(desk, f"{line} {lot} {sort}", NoLot)
        self.assert_error(desk, "played d - hours", NotEnough, place=("row", 0, 1, 2))
        self.assert_error(desk, "played d 2,3 turns", NotEnough, place=("row", 0, 1, 2))

    def test_everything_is_defined_where_the_interface_lists_it(self):
        self.assertEqual(module.Desk.__module__, "hourcards.desk")
        for name in ("tell", "undoable"):
            self.assertIn(name, vars(Desk))

    def test_desks_go_apart_and_are_equal_to_nothing_else(self):
        one, other = self.desk("web a " + WEB), Desk()
        self.assertEqual((one.tell("names"), other.tell("names")), ("a", "none"))
        for thing in ODD + [other, LINE, 0, {}]:
            self.assertIs(one == thing, False)

    def test_what_is_kept_does_not_hang_on_what_was_told(self):
        desk = self.desk("web a " + WEB)
        self.assertEqual([desk.tell("names") for _ in range(3)], ["a"] * 3)
        self.assertIs(type(desk.tell("least a hours")), str)
        self.assertIs(type(desk.undoable()), int)


def state_of(desk):
    """What a desk answers to some lines that change nothing."""
    found = [desk.undoable(), desk.tell("names")]
    for name in ("a", "b", "c", "d", "e", "w", "x"):
        for line in (f"kinds {name} 0 hours", f"least {name} turns", f"played {name} 0,1 hours"):
            try:
                found.append(desk.tell(line))
            except HourError as error:
                found.append(told(error))
    return found


class Book:
    """A desk as 14 tells of it: all that was kept, ahead of each change, in a list."""

    def __init__(self):
        self.pages = [({}, {})]

    def tell(self, line):
        webs, days = self.pages[-1]
        found = re.fullmatch(r"(web|day) ([a-z]{1,8}) (.+)", line)
        if found:
            word, name, text = found.groups()
            text = text.replace("|", "\n")
            if word == "web":
                self.pages.append(({**webs, name: read_web(text)}, days))
            else:
                self.pages.append((webs, {**days, name: read_day(text)}))
            return "ok"
        if line == "undo":
            if len(self.pages) == 1:
                raise NothingDone()
            self.pages.pop()
            return "ok"
        if line == "names":
            return " ".join(sorted(webs)) or "none"
        word, name, *rest = line.split(" ")
        if word == "drop":
            if name not in webs and name not in days:
                raise NoName(name)
            self.pages.append(({other: web for other, web in webs.items() if other != name},
                               {other: day for other, day in days.items() if other != name}))
            return "ok"
        kept = days if word == "played" else webs
        if name not in kept:
            raise NoName(name)
        if word == "least":
            return str(least_size(kept[name], rest[0]))
        lot = () if rest[0] == "-" else tuple([int(road) for road in rest[0].split(",")])
        if word == "enough":
            places = bad_places(kept[name], lot, rest[1])
            return " ".join(map(str, places[0])) if places else "yes"
        if word == "kinds":
            return " ".join(kinds(kept[name], lot, rest[1]) or ["none"])
        return "yes" if missed(kept[name].web, lot, rest[1], cards(kept[name], lot, rest[1])) is None else "no"


class Books(unittest.TestCase):

    def drawn_line(self, rng):
        name = rng.choice(["a", "b", "ab", "zzzzzzzz"])
        word = rng.choice(["web", "web", "day", "drop", "names", "enough", "kinds", "least", "played", "undo", "undo"])
        if word in ("names", "undo"):
            return word
        if word == "drop":
            return f"drop {name}"
        sort = rng.choice(["hours", "turns"])
        if word == "least":
            return f"least {name} {sort}"
        if word in ("web", "day"):
            web = drawn_web(rng, 4, 5)
            text = web_text(web) if word == "web" else day_text(drawn_day(rng, web, 4))
            if rng.random() < 0.15:
                at = rng.randrange(len(text))
                text = text[:at] + rng.choice([" ", "0", "9", "x", "|", ""]) + text[at + 1:]
            elif rng.random() < 0.2:
                # Another figure, mostly in a late line.
                at = rng.choice([at for at, sign in enumerate(text) if sign.isdigit()][-12:])
                text = text[:at] + rng.choice("123") + text[at + 1:]
            return f"{word} {name} {bars(text)}"
        lot = ",".join([str(road) for road in range(5) if rng.random() < 0.5]) or "-"
        return f"{word} {name} {lot} {sort}"

    def answer(self, keeper, line):
        try:
            return keeper.tell(line)
        except HourError as error:
            return told(error)

    def test_lines_drawn_at_random(self):
        rng = random.Random(142)
        seen = {}
        for _ in range(60):
            desk, book = Desk(), Book()
            for _ in range(60):
                line = self.drawn_line(rng)
                answer = self.answer(book, line)
                self.assertEqual(self.answer(desk, line), answer, line)
                self.assertEqual(desk.undoable(), len(book.pages) - 1)
                kind = answer if isinstance(answer, str) and answer in ("ok", "yes", "none") else type(answer).__name__
                kind = answer[0] if isinstance(answer, tuple) else kind
                seen[kind] = seen.get(kind, 0) + 1
            # All is taken back, one after the other.
            while len(book.pages) > 1:
                self.assertEqual((desk.tell("undo"), book.tell("undo")), ("ok", "ok"))
                for line in ("names", "kinds a 0 hours", "least ab turns", "played b 0 turns", "played zzzzzzzz - hours"):
                    self.assertEqual(self.answer(desk, line), self.answer(book, line))
                self.assertEqual(desk.undoable(), len(book.pages) - 1)
            self.assertEqual(self.answer(desk, "undo"), ("NothingDone", {}))
        for kind in ("ok", "yes", "none", "NoName", "NoLot", "NotEnough", "NothingDone", "BadText", "BadWeb", "BadDay", "str"):
            self.assertGreater(seen.get(kind, 0), 3, kind)

    def test_many_undos_in_a_row(self):
        desk, book = Desk(), Book()
        rng = random.Random(143)
        texts = [bars(web_text(drawn_web(rng, 4, 5))) for _ in range(20)]
        names = ["".join(rng.choice("abc") for _ in range(rng.randint(1, 2))) for _ in range(1500)]
        for number, name in enumerate(names):
            line = f"web {name} {texts[number * number % 20]}" if number % 7 or not desk.undoable() else f"drop {names[number - 1]}"
            self.assertEqual(self.answer(desk, line), self.answer(book, line))
        for _ in range(len(book.pages) - 1):
            self.assertEqual((desk.tell("names"), desk.undoable()), (book.tell("names"), len(book.pages) - 1))
            desk.tell("undo")
            book.tell("undo")
        self.assertEqual((desk.tell("names"), desk.undoable()), ("none", 0))


if __name__ == "__main__":
    unittest.main()
