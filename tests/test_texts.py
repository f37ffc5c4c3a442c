import re
import unittest

from manydeep.texts import garden_text, read_garden, read_web, web_text
from tests.anyvalues import BARE, FORKED, GARDENS, LONE, NO_GARDENS, NO_WEBS, RING, ROW, TIE, TWICE, WEBS, raised

NUMBER = "(0|[1-9][0-9]*)"
NO_STRINGS = (None, True, False, 0, 1, -1, (), [], {}, ("places 1",), ["places 1"], {"places 1": 1}, TIE, (TIE, (TIE,)),
              b"places 1")


def is_begun(lines, least):
    """Whether lines can begin the text of a web of least places or more; by another way than the program's."""
    told = re.fullmatch("places " + NUMBER, lines[0]) if lines else True
    if told is True or told is None or int(told[1]) < least:
        return told is True
    ties = [re.fullmatch(NUMBER + " " + NUMBER + " ([012])", line) for line in lines[1:]]
    if None in ties:
        return False
    ties = [(int(tie[1]), int(tie[2]), int(tie[3])) for tie in ties]
    return ties == sorted(ties) and all(a != b and max(a, b) < int(told[1]) for a, b, _ in ties)


def parts_of(lines):
    """Lines, parted at each line `growth`."""
    parts = [[]]
    for line in lines:
        if line == "growth":
            parts.append([])
        else:
            parts[-1].append(line)
    return parts


def wrong_line_of_web(text):
    lines = text.split("\n")
    return next((at for at in range(1, len(lines) + 1) if not is_begun(lines[:at], 1)), None)


def wrong_line_of_garden(text):
    lines = text.split("\n")
    for at in range(1, len(lines) + 1):
        parts = parts_of(lines[:at])
        whole = all(part for part in parts[:-1])
        webs = all(is_begun(part, 1 + (number > 0)) for number, part in enumerate(parts))
        if not whole or not webs or len(parts) > 4:
            return at
    kinds = [int(line.split(" ")[2]) for line in lines if line.count(" ") == 2]
    parts = parts_of(lines)
    if not parts[-1] or len(parts) < 2 or max(kinds, default=0) >= len(parts) - 1:
        return len(lines) + 1
    return None


def changed_texts(text):
    """Texts with a line left out, doubled, exchanged for another one, or changed by a sign."""
    lines = text.split("\n")
    for at, line in enumerate(lines):
        yield "\n".join(lines[:at] + lines[at + 1:])
        yield "\n".join(lines[:at] + [line] + lines[at:])
        yield "\n".join(lines[:at])
        for other in range(at):
            yield "\n".join(lines[:other] + [line] + lines[other + 1:at] + [lines[other]] + lines[at + 1:])
        for new in ("", "growth", "places 1", "places 2", "0 1 0", "0 1 1", "0 1 2", "1 0 2", "promise joined"):
            yield "\n".join(lines[:at] + [new] + lines[at + 1:])
            yield "\n".join(lines[:at] + [new] + lines[at:])
    for at in range(len(text) + 1):
        yield text[:at] + text[at + 1:]
        for sign in " 012+-x\n.,_":
            yield text[:at] + sign + text[at:]
            yield text[:at] + sign + text[at + 1:]


class Written(unittest.TestCase):
    """web_text and garden_text [1.4]."""

    def test_example(self):
        self.assertEqual(
            [web_text(FORKED), read_web('places 2\n0 1 2'), garden_text((TIE, (TIE,)))],
            ['places 3\n0 1 0\n0 2 1', (2, ((0, 1, 2),)), 'places 2\n0 1 0\ngrowth\nplaces 2\n0 1 0'])
        self.assertEqual(raised(read_garden, 'places 2\n0 1 0'), ("BadText", {"at": 3}))

    def test_webs(self):
        self.assertEqual(web_text(LONE), "places 1")
        self.assertEqual(web_text(TWICE), "places 2\n0 1 0\n0 1 0\n1 0 2")
        self.assertEqual(web_text(web=(12, ((0, 11, 0), (10, 2, 1)))), "places 12\n0 11 0\n10 2 1")
        self.assertEqual(web_text((10 ** 99, ())), "places 1" + "0" * 99)

    def test_gardens(self):
        self.assertEqual(garden_text((LONE, (BARE,))), "places 1\ngrowth\nplaces 2")
        self.assertEqual(garden_text(garden=(TWICE, (BARE, ROW, TWICE))),
                         "places 2\n0 1 0\n0 1 0\n1 0 2\ngrowth\nplaces 2\ngrowth\nplaces 3\n0 2 0\n2 1 0\n"
                         "growth\nplaces 2\n0 1 0\n0 1 0\n1 0 2")

    def test_wrong_arguments(self):
        for thing in NO_WEBS:
            self.assertEqual(raised(web_text, thing), ("BadWeb", {"thing": thing}))
            self.assertEqual(raised(web_text, web=thing), ("BadWeb", {"thing": thing}))
        for thing in NO_GARDENS:
            self.assertEqual(raised(garden_text, thing), ("BadGarden", {"thing": thing}))
            self.assertEqual(raised(garden_text, garden=thing), ("BadGarden", {"thing": thing}))


class Read(unittest.TestCase):
    """read_web and read_garden [1.4]."""

    def check_web(self, text, at):
        self.assertEqual(raised(read_web, text), ("BadText", {"at": at}), text)

    def check_garden(self, text, at):
        self.assertEqual(raised(read_garden, text), ("BadText", {"at": at}), text)

    def test_what_is_written_is_read(self):
        for web in WEBS:
            self.assertEqual(read_web(web_text(web)), web)
            self.assertEqual(read_web(text=web_text(web)), web)
        for garden in GARDENS:
            self.assertEqual(read_garden(garden_text(garden)), garden)
            self.assertEqual(read_garden(text=garden_text(garden)), garden)

    def test_no_strings(self):
        for thing in NO_STRINGS:
            for function in (read_web, read_garden):
                self.assertEqual(raised(function, thing), ("BadText", {"at": 0}))
                self.assertEqual(raised(function, text=thing), ("BadText", {"at": 0}))

    def test_first_line(self):
        wrong = ("", " ", "\n", "places", "places ", "places 0", "places -1", "places +1", "places 01", "places 1 ",
                 " places 1", "places  1", "places 1 0", "places\t1", "places 1\r", "places 1.0", "places x", "Places 1",
                 "place 1", "growth", "0 1 0", "1", "places 1_0", "places \u0661", "places \u00b2", "places \u00a01")
        for line in wrong:
            for rest in ("", "\n0 1 0", "\ngrowth\nplaces 2"):
                self.check_web(line + rest, 1)
                self.check_garden(line + rest, 1)

    def test_lines_of_ties(self):
        wrong = ("", "0", "0 1", "0 1 0 ", " 0 1 0", "0  1 0", "0 1  0", "0 1 0 0", "00 1 0", "0 01 0", "0 1 00", "0 1 01",
                 "+0 1 0", "0 +1 0", "0 1 +0", "-1 1 0", "0 -1 0", "0 1 -1", "-0 1 0", "0 0 0", "1 1 1", "0 4 0", "4 0 0",
                 "0 1 3", "0 1 x", "0,1,0", "0 1 0\r", "0\t1 0", "x", "(0, 1, 0)", "places 4", "0 1 \u0660")
        for line in wrong:
            self.check_web("places 4\n" + line, 2)
            self.check_web("places 4\n0 1 0\n" + line, 3)
            self.check_garden("places 4\n0 1 0\n" + line + "\ngrowth\nplaces 2", 3)
            self.check_garden("places 4\n0 1 0\ngrowth\nplaces 4\n0 1 0\n" + line, 6)
        self.check_web("places 1\n0 1 0", 2)
        self.check_web("places 4\ngrowth", 2)

    def test_ties_out_of_order(self):
        self.check_web("places 3\n0 1 1\n0 1 0", 3)
        self.check_web("places 3\n0 2 0\n0 1 0\n0 1 0", 3)
        self.check_web("places 3\n1 0 0\n1 0 0\n0 1 0", 4)
        self.check_garden("places 3\n1 0 0\n0 1 0\ngrowth\nplaces 2", 3)
        self.check_garden("places 3\ngrowth\nplaces 3\n1 0 0\n0 1 0\ngrowth\nplaces 2", 5)
        # The order begins anew with each web, and goes by numbers, not by signs.
        self.assertEqual(read_garden("places 2\n1 0 0\ngrowth\nplaces 2\n0 1 0")[1], (TIE,))
        self.assertEqual(read_web("places 11\n2 0 0\n10 0 0"), (11, ((2, 0, 0), (10, 0, 0))))
        self.check_web("places 11\n10 0 0\n2 0 0", 3)

    def test_line_feeds_at_the_end(self):
        self.check_web("places 1\n", 2)
        self.check_web("places 2\n0 1 0\n", 3)
        self.check_web("places 2\n0 1 0\n\n", 3)
        self.check_web("\nplaces 2\n0 1 0", 1)
        self.check_garden("places 2\n0 1 0\ngrowth\nplaces 2\n0 1 0\n", 6)
        self.check_garden("places 2\n0 1 0\n", 3)
        self.check_garden("\nplaces 2\ngrowth\nplaces 2", 1)
        # Only a line feed ends a line.
        self.check_web("places 2\r\n0 1 0", 1)
        self.check_web("places 2\x0c0 1 0", 1)

    def test_gardens_that_lack_lines(self):
        self.check_garden("places 1", 2)
        self.check_garden("places 2\n0 1 0\ngrowth", 4)
        self.check_garden("places 2\n0 1 1\ngrowth\nplaces 2", 5)
        self.check_garden("places 2\n0 1 2\ngrowth\nplaces 2\ngrowth\nplaces 2", 7)
        self.check_garden("places 2\ngrowth\nplaces 2\n0 1 1", 5)
        self.check_garden("places 2\ngrowth\nplaces 2\n0 1 1\ngrowth\nplaces 2\n0 1 2", 8)
        self.check_garden("places 2\n0 1 1\ngrowth\nplaces 2\nx", 5)

    def test_growths(self):
        self.check_garden("places 2\ngrowth\nplaces 1", 3)
        self.check_garden("places 2\ngrowth\n0 1 0", 3)
        self.check_garden("places 2\ngrowth\ngrowth\nplaces 2", 3)
        self.check_garden("places 2\ngrowth \nplaces 2", 2)
        self.check_garden("places 2\nGrowth\nplaces 2", 2)
        self.check_garden("growth\nplaces 2", 1)
        self.check_garden("places 2" + "\ngrowth\nplaces 2" * 4, 8)
        self.check_garden("places 2" + "\ngrowth\nplaces 2" * 3 + "\npromise joined", 8)

    def test_changed_texts_of_webs(self):
        for web in (LONE, BARE, FORKED, TWICE, RING, (12, ((0, 11, 0), (10, 2, 1)))):
            for text in changed_texts(web_text(web)):
                at = wrong_line_of_web(text)
                if at is None:
                    self.assertEqual(web_text(read_web(text)), text)
                else:
                    self.check_web(text, at)

    def test_changed_texts_of_gardens(self):
        for garden in GARDENS:
            for text in changed_texts(garden_text(garden)):
                at = wrong_line_of_garden(text)
                if at is None:
                    self.assertEqual(garden_text(read_garden(text)), text)
                else:
                    self.check_garden(text, at)

    def test_long_numbers(self):
        text = "places 1" + "0" * 1900
        self.assertEqual(read_web(text), (10 ** 1900, ()))
        self.check_web(text + "\n0 1 3", 2)
        self.assertEqual(read_web("places 1" + "0" * 99 + "\n0 " + "9" * 99 + " 2"), (10 ** 99, ((0, 10 ** 99 - 1, 2),)))

    def test_the_same_call_gives_the_same_result(self):
        for garden in GARDENS:
            self.assertEqual(read_garden(garden_text(garden)), read_garden(garden_text(garden)))


if __name__ == "__main__":
    unittest.main()
