"""Texts of webs and days (13)."""


def web_text(web):
    """The text of the web: a line for its houses, then one for each road."""
    lines = [f"web {web.houses}"]
    for (begin, end), rooms, time in zip(web.roads, web.rooms, web.times):
        lines.append(f"road {begin} {end} {rooms} {time}")
    return closed(lines)


def day_text(day):
    """The text of the day: that of its web, then a line for each letter."""
    return web_text(day.web) + closed([letter_line(letter, row) for letter, row in zip(day.letters, day.hours)])


def letter_line(letter, row):
    """The line of a letter with these hours."""
    way, come = letter
    return f"letter {come} " + " ".join([f"{road} {hour}" for road, hour in zip(way, row)])


def closed(lines):
    """The text of these lines, each closed by a line feed."""
    return "".join([line + "\n" for line in lines])
