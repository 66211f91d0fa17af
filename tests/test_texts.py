"""Texts (13)."""

import random
import unittest

from hourcards import reading, texts
from hourcards.days import Day, laid_over, shifted, without
from hourcards.errors import BadDay, BadText, BadWeb
from hourcards.lines import line_web, ring_web
from hourcards.plans import plan_trap
from hourcards.reading import read_day, read_web
from hourcards.texts import day_text, web_text
from hourcards.traps import trap
from tests.drawn import drawn_day, drawn_web
from tests.samples import BACK, DAY, EMPTY, FORK, FOUR, LARGE, LINE, ODD, name_of, nested
from tests.test_days import sixty
from tests.test_plans import LAST

WEB_TEXT = "web 4\nroad 0 1 1 1\nroad 1 2 1 1\nroad 2 3 1 1\n"
DAY_TEXT = WEB_TEXT + "letter 1 0 1 1 2 2 3\nletter 2 0 2\n"
HEAD = "web 2\nroad 0 1 1 1\n"


class Texts(unittest.TestCase):

    def test_by_hand(self):
        self.assertEqual(web_text(LINE), WEB_TEXT)
        self.assertEqual(web_text(BACK), "web 2\nroad 0 1 1 1\nroad 1 0 2 3\n")
        self.assertEqual(web_text(FORK), "web 5\nroad 0 1 1 1\nroad 0 1 2 2\nroad 1 2 3 3\nroad 2 3 1 1\nroad 1 4 1 1\n")
        self.assertEqual(day_text(DAY), DAY_TEXT)
        self.assertEqual(day_text(EMPTY), WEB_TEXT)
        day = Day(BACK, (((1, 0, 1), 2),), ((2, 5, 10 ** 20),))
        self.assertEqual(day_text(day), web_text(BACK) + "letter 2 1 2 0 5 1 100000000000000000000\n")

    def test_the_example(self):
        self.assertIs(read_day(day_text(DAY)) == DAY, True)

    def test_drawn_webs_and_days(self):
        rng = random.Random(131)
        for _ in range(300):
            day = drawn_day(rng, drawn_web(rng, 12, 24))
            self.assertEqual(read_web(web_text(day.web)), day.web)
            self.assertEqual(read_day(day_text(day)), day)
            self.assertEqual(day_text(read_day(day_text(day))), day_text(day))
            # The text of a web is that of a day without letters.
            self.assertEqual(read_day(web_text(day.web)), without(day, list(range(len(day.letters)))))

    def test_beyond_the_bounds(self):
        self.assertEqual(web_text(line_web(200)), "web 201\n" + "".join([f"road {k} {k + 1} 1 1\n" for k in range(200)]))
        many = laid_over(sixty(), shifted(sixty(), 10 ** 6))
        self.assertEqual(day_text(many).count("letter"), 120)
        self.assertTrue(day_text(many).endswith("\nletter 1000001 0 1000060\n"))

    def test_days_that_are_returned(self):
        day, other, _ = trap(FOUR, (), "hours", ("row", 0, 1, 2), 0, 1)
        _, third, fourth, _ = plan_trap(LAST, 8, 5, 12)
        for led in (day, other, third, fourth):
            self.assertEqual(read_day(day_text(led)), led)

    def test_everything_is_defined_where_the_interface_lists_it(self):
        for name in ("web_text", "day_text"):
            self.assertEqual(getattr(texts, name).__module__, "hourcards.texts")
        for name in ("read_web", "read_day"):
            self.assertEqual(getattr(reading, name).__module__, "hourcards.reading")


class Reading(unittest.TestCase):

    def assert_text(self, line, text, calls=(read_web, read_day)):
        for call in calls:
            with self.subTest(text=name_of(text), call=call.__name__), self.assertRaises(BadText) as caught:
                call(text)
            self.assertEqual(caught.exception.line, line)

    def assert_part(self, error, part, call, text):
        with self.subTest(text), self.assertRaises(error) as caught:
            call(text)
        self.assertEqual(caught.exception.part, part)

    def test_by_hand(self):
        self.assertEqual(read_web(WEB_TEXT), LINE)
        self.assertEqual(read_day(DAY_TEXT), DAY)
        self.assertEqual(read_day(WEB_TEXT), EMPTY)
        self.assertEqual(read_day("web 2\nroad 0 1 1 1\nroad 1 0 2 3\nletter 2 1 2 0 5 1 999999999\n").hours, ((2, 5, 999999999),))

    def test_no_strings(self):
        for thing in ODD + [HEAD.encode(), [HEAD], (HEAD,), {HEAD: HEAD}, 0, LINE, DAY, nested(list, 40), BadText(0)]:
            if not isinstance(thing, str):
                self.assert_text(0, thing)

    def test_what_is_lacking(self):
        self.assert_text(1, "")
        self.assert_text(2, "web 2\n")
        self.assert_text(1, "web 2")
        self.assert_text(2, "web 2\nroad 0 1 1 1")
        self.assert_text(3, HEAD + "road 0 1 1 1")
        self.assert_text(3, HEAD + "x")
        self.assert_text(3, HEAD + " ")
        self.assert_text(3, HEAD + "letter 1 0 1")

    def test_lines_that_cannot_stand_where_they_do(self):
        self.assert_text(1, "\n")
        self.assert_text(1, "\n" + HEAD)
        self.assert_text(3, HEAD + "\n")
        self.assert_text(2, "web 2\n\nroad 0 1 1 1\n")
        self.assert_text(1, "road 0 1 1 1\n")
        self.assert_text(1, "letter 1 0 1\n")
        self.assert_text(2, "web 2\nweb 2\nroad 0 1 1 1\n")
        self.assert_text(3, HEAD + "web 2\n")
        self.assert_text(2, "web 2\nletter 1 0 1\nroad 0 1 1 1\n")
        self.assert_text(2, "web 2\nletter 1 0 1\n")
        # A letter in the text of a web, and a road behind a letter.
        self.assert_text(3, HEAD + "letter 1 0 1\n", (read_web,))
        self.assert_text(4, HEAD + "letter 1 0 1\nroad 0 1 1 1\n", (read_day,))
        self.assert_text(4, HEAD + "letter 1 0 1\nweb 2\n", (read_day,))

    def test_the_first_line_that_is_wrong(self):
        self.assert_text(2, "web 2\nroad 0 1 1\nroad 0 1\n")
        self.assert_text(1, "web\nroad 0 1 1\n")
        self.assert_text(2, "web 2\nroad 0 1 1 x\nroad 0 1 1 1")
        # A line that is wrong is ahead of what is behind the last line feed.
        self.assert_text(3, HEAD + "road\nx")

    def test_words(self):
        for line in ("web", "web ", "web 2 ", " web 2", "web  2", "web 2 3", "Web 2", "WEB 2", "web2", "webs 2", "web\t2", "web 2\r",
                     "web 2\t", "\rweb 2", "web x", "web 2.0", "web -2", "web +2", "web 02", "web 2_0", "web 1000000000", "web 0x2",
                     "web \x0b2", "web 2\x0c", "web 2\x00", "web 0000000002", "web 00", "web ''", "2", "house 2", "web two", "web 2e0"):
            self.assert_text(1, line + "\nroad 0 1 1 1\n")
        for line in ("road", "road 0", "road 0 1 1", "road 0 1 1 1 1", "road 0 1 1 1 ", " road 0 1 1 1", "road  0 1 1 1", "road 0 1  1 1",
                     "road 0 1 1 1\r", "road 0 1 1 +1", "road -0 1 1 1", "road 0 1 01 1", "road 0 1 1 1000000000", "road 0,1 1 1",
                     "road 0 1 1 ", "road 0\t1 1 1", "Road 0 1 1 1", "road 0 1 1 1.", "road a b c d", "roads 0 1 1 1", "road 0 1 1 \x1c1"):
            self.assert_text(2, "web 2\n" + line + "\n")
        for line in ("letter", "letter 1", "letter 1 0", "letter 1 0 1 0", "letter 1 0 1 ", "letter 1 0  1", " letter 1 0 1",
                     "letter 1 0 -1", "letter 1 0 01", "letter 00 0 1", "letter 1 0 1000000000", "letter 1 0 1\r", "letter 1,0,1",
                     "Letter 1 0 1", "letters 1 0 1", "letter\t1 0 1", "letter 1 0 x", "letter 1 None 1", "letter +1 0 1", "letter "):
            self.assert_text(3, HEAD + line + "\n", (read_day,))

    def test_numbers_of_nine_figures_and_of_ten(self):
        self.assertEqual(read_day(HEAD + "letter 1 0 999999999\n").hours, ((999999999,),))
        self.assert_text(3, HEAD + "letter 1 0 1000000000\n", (read_day,))
        self.assert_part(BadWeb, "houses", read_web, "web 999999999\nroad 0 1 1 1\n")
        self.assert_text(1, "web 1000000000\nroad 0 1 1 1\n")
        self.assert_text(1, "web 0000000002\nroad 0 1 1 1\n")

    def test_the_number_zero(self):
        self.assertEqual(read_web("web 2\nroad 1 0 1 1\n").roads, ((1, 0),))
        self.assert_part(BadWeb, "houses", read_web, "web 0\nroad 0 1 1 1\n")
        self.assert_text(2, "web 2\nroad 00 1 1 1\n")

    def test_bad_webs(self):
        for call in (read_web, read_day):
            for part, text in (("houses", "web 1\nroad 0 1 1 1\n"), ("houses", "web 13\nroad 5 5 9 9\n"), ("roads", "web 2\nroad 0 2 1 1\n"),
                               ("roads", "web 2\nroad 1 1 0 1\n"), ("rooms", "web 2\nroad 0 1 4 4\n"), ("rooms", "web 2\nroad 0 1 0 1\n"),
                               ("times", "web 2\nroad 0 1 1 4\n"), ("times", "web 2\nroad 0 1 1 0\n"),
                               ("roads", "web 2\n" + "road 0 1 1 1\n" * 25), ("times", "web 2\nroad 0 1 1 1\nroad 1 0 3 0\n")):
                self.assert_part(BadWeb, part, call, text)
        self.assertEqual(len(read_web("web 2\n" + "road 0 1 1 1\n" * 24).roads), 24)
        # Of a day's web is told ahead of its letters.
        self.assert_part(BadWeb, "times", read_day, "web 2\nroad 0 1 1 4\nletter 0 0 1\n")

    def test_bad_days(self):
        for part, lines in (("letters", "letter 1 1 1\n"), ("letters", "letter 0 0 1\n"), ("letters", "letter 1 0 1 0 2\n"),
                            ("letters", "letter 1000001 0 1000001\n"), ("letters", "letter 1 0 1\n" * 61), ("early", "letter 2 0 1\n"),
                            ("full", "letter 1 0 1\n" * 2), ("early", "letter 1 0 0\n"), ("early", "letter 2 0 2\nletter 2 0 2\nletter 3 0 1\n")):
            self.assert_part(BadDay, part, read_day, HEAD + lines)
        self.assert_part(BadDay, "letters", read_day, WEB_TEXT + "letter 1" + " 0 1" * 9 + "\n")
        self.assertEqual(read_day(HEAD + "letter 1000000 0 1000000\n").letters, (((0,), 10 ** 6),))

    def test_a_bad_text_is_told_ahead_of_all(self):
        self.assert_text(3, "web 1\nroad 5 5 9 9\nx\n")
        self.assert_text(4, "web 1\nroad 5 5 9 9\nletter 0 9 9\nletter\n", (read_day,))
        self.assert_text(3, "web 1\nroad 5 5 9 9\nx")

    def test_the_texts_of_returned_webs_and_days(self):
        self.assert_part(BadWeb, "houses", read_web, web_text(line_web(200)))
        self.assert_part(BadWeb, "houses", read_day, web_text(ring_web(13)))
        self.assertEqual(read_web(web_text(ring_web(12))), ring_web(12))
        self.assertEqual(read_web(web_text(line_web(11))), line_web(11))
        many = laid_over(sixty(), shifted(sixty(), 100))
        self.assert_part(BadDay, "letters", read_day, day_text(many))
        self.assert_part(BadDay, "letters", read_day, day_text(shifted(DAY, 10 ** 6)))
        self.assert_text(5, day_text(shifted(DAY, 10 ** 9)), (read_day,))
        # The first letter comes at 999999998 and is home at 1000000000.
        self.assert_text(5, day_text(shifted(DAY, 10 ** 9 - 3)), (read_day,))
        self.assert_part(BadWeb, "houses", read_day, day_text(Day(line_web(50), (((40, 41), 1),), ((1, 2),))))

    def test_large_texts(self):
        self.assertEqual(read_web(web_text(LARGE)), LARGE)
        self.assertEqual(read_day(day_text(sixty())), sixty())
        self.assert_text(10 ** 5 + 3, HEAD + "road 0 1 1 1\n" * 10 ** 5 + "\n")
        self.assert_text(1, " " * 10 ** 6 + "\n")


if __name__ == "__main__":
    unittest.main()
