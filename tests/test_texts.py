"""Texts of books and lines of deeds."""

import random
import unittest

from onceseen.books import Book
from onceseen.errors import InvalidDeed, InvalidText
from onceseen.ladders import Ladder
from onceseen.margins import Margins
from onceseen.texts import line_of, read_book, read_deed, text_of
from tests.checking import FAR, NO_INTEGERS, Case
from tests.drawing import drawn_book
from tests.test_books import ALL_CARES
from tests.test_runs_deeds import NO_DEEDS

PLAIN = Margins(Ladder(4, [2]))
TALL = Book(Margins(Ladder(4, [2, 3], [(0, 0), (1, 8), (24, 0)]), [(4, 0), (0, 8), (24, 24)]), source="drawing",
            order="any", unmark="end", drop=True, hands=2, alone=False, wait=False)
LINES = ["side 4", "factor 2", "factor 3", "edge 0 0 4 0", "edge 1 8 0 8", "edge 24 0 24 24",
         "cares drawing any end drop 2 shared glance"]

# Values that are no string.
NO_STRINGS = [value for value in NO_INTEGERS if not isinstance(value, str)] + [3, 0, ["side 4\n"], ("edit 3 4",), TALL]


def joined(lines):
    """The text of these lines."""
    return "".join(line + "\n" for line in lines)


class TextOf(Case):

    def test_the_printed_value(self):
        self.same(text_of(Book(PLAIN)),
                  "side 4\nfactor 2\nedge 0 0 0 0\nedge 0 0 0 0\ncares finer settled begin keep 1 alone wait\n")

    def test_one_two_and_three_levels(self):
        self.same(text_of(book=Book(Margins(Ladder(7, [], [(1, 2)])))),
                  "side 7\nedge 1 2 2 1\ncares finer settled begin keep 1 alone wait\n")
        self.same(text_of(TALL), joined(LINES))

    def test_each_word(self):
        words = {"finer": "finer", "drawing": "drawing"}
        for cares in ALL_CARES:
            line = text_of(Book(PLAIN, **cares)).split("\n")[-2]
            self.same(line, " ".join([
                "cares", words[cares["source"]], cares["order"], cares["unmark"], "drop" if cares["drop"] else "keep",
                "2" if cares["hands"] == 2 else "1", "alone" if cares["alone"] else "shared",
                "wait" if cares["wait"] else "glance"]))

    def test_forty_digits(self):
        side = 10 ** 40 - 1
        self.same(text_of(Book(Margins(Ladder(side), [(side, 0)]))).split("\n")[:2],
                  [f"side {side}", f"edge 0 0 {side} 0"])

    def test_read_again(self):
        for cares in ALL_CARES:
            self.assertEqual(read_book(text_of(Book(PLAIN, **cares))), Book(PLAIN, **cares))
        for number in range(100):
            book = drawn_book(random.Random(number))
            self.assertEqual(read_book(text_of(book)), book)
            self.assertEqual(text_of(read_book(text_of(book))), text_of(book))
        for margins in (PLAIN * FAR, Margins(Ladder(FAR, [4, 3], [(0, FAR), (1, 2), (0, 0)]))):
            self.assertEqual(read_book(text=text_of(Book(margins))), Book(margins))


class ReadBook(Case):

    def wrong(self, lines, line):
        """The text of these lines has its first wrong line there."""
        self.fails(InvalidText(line), read_book, joined(lines))

    def test_the_lines_themselves(self):
        self.assertEqual(read_book(joined(LINES)), TALL)
        self.same(read_book(joined(LINES)).cares(), TALL.cares())

    def test_a_line_less(self):
        # Without a factor there is an edge too many; without an edge the next one, too great, stands in its place.
        for at, line in enumerate([1, 5, 5, 4, 5, 6, 7]):
            self.wrong(LINES[:at] + LINES[at + 1:], line)

    def test_two_edges_of_which_one_lacks(self):
        lines = ["side 4", "factor 2", "edge 4 0 0 0", "edge 8 0 0 0", "cares finer any begin keep 1 alone wait"]
        self.wrong(lines[:2] + lines[3:], 3)
        self.wrong(lines[:3] + lines[4:], 4)

    def test_lines_that_lack_at_the_end(self):
        for many in range(len(LINES)):
            self.wrong(LINES[:many], many + 1)
        self.fails(InvalidText(1), read_book, "")

    def test_doubled_lines(self):
        for at, line in enumerate([2, 4, 4, 7, 7, 7, 8]):
            self.wrong(LINES[:at + 1] + LINES[at:], line)

    def test_exchanged_lines(self):
        lines = ["side 4", "factor 2", "edge 4 0 0 0", "edge 8 0 0 0", "cares finer any begin keep 1 alone wait"]
        for at, line in enumerate([1, 3, 3, 4]):
            self.wrong(lines[:at] + [lines[at + 1], lines[at]] + lines[at + 2:], line)

    def test_a_third_factor(self):
        self.wrong(LINES[:3] + ["factor 2"] + LINES[3:], 4)
        self.wrong(LINES[:3] + ["factor 2"] + LINES[3:6] + LINES[5:], 4)

    def test_lines_behind_the_cares(self):
        for line in ("", " ", "side 4", LINES[-1], "edge 0 0 0 0", "x"):
            self.wrong(LINES + [line], 8)
        self.wrong(LINES + ["", ""], 8)

    def test_a_last_line_without_a_line_feed(self):
        self.fails(InvalidText(7), read_book, joined(LINES)[:-1])
        for many in range(1, len(LINES)):
            self.fails(InvalidText(many), read_book, joined(LINES[:many])[:-1])
        self.fails(InvalidText(8), read_book, joined(LINES) + "side 4")
        self.fails(InvalidText(8), read_book, joined(LINES) + " ")
        self.fails(InvalidText(2), read_book, "side 4\nfactor 5\n" + joined(LINES[2:])[:-1])

    def test_empty_lines(self):
        for at in range(len(LINES)):
            self.wrong(LINES[:at] + [""] + LINES[at:], at + 1)

    def test_a_sign_more_or_less(self):
        for at, line in enumerate(LINES):
            for place in range(len(line) + 1):
                for sign in " x-+.":
                    self.wrong(LINES[:at] + [line[:place] + sign + line[place:]] + LINES[at + 1:], at + 1)
            for place in range(len(line)):
                if not line[place].isdigit() or line[place - 1] == " ":
                    spoilt = line[:place] + line[place + 1:]
                    if spoilt not in ("edge 4 0 24 24", "edge 24 0 4 24", "edge 24 0 24 4"):
                        self.wrong(LINES[:at] + [spoilt] + LINES[at + 1:], at + 1)

    def test_numbers_in_another_form(self):
        for number in ("04", "+4", "-4", "00", "-0", "4.0", "4 ", " 4", "1_0", "0x4", "", "four", "4e1", "(4)", "0"):
            self.wrong([f"side {number}"] + LINES[1:], 1)
            if number != "0":
                for at in range(4):
                    words = ["edge", "4", "4", "4", "4"]
                    words[at + 1] = number
                    self.wrong(LINES[:3] + [" ".join(words)] + LINES[4:], 4)

    def test_numbers_that_are_not_let(self):
        for factor in ("1", "0", "5", "-2", "12", "22", "2 2", "02"):
            self.wrong([LINES[0], f"factor {factor}"] + LINES[2:], 2)
            self.wrong(LINES[:2] + [f"factor {factor}"] + LINES[3:], 3)
        for at, side in ((3, 4), (4, 8), (5, 24)):
            for place in range(4):
                words = ["edge", "0", "0", "0", "0"]
                words[place + 1] = str(side)
                self.assertEqual(read_book(joined(LINES[:at] + [" ".join(words)] + LINES[at + 1:])).ladder.levels, 3)
                for number in (side + 1, FAR, -1):
                    words[place + 1] = str(number)
                    self.wrong(LINES[:at] + [" ".join(words)] + LINES[at + 1:], at + 1)

    def test_words_that_are_none(self):
        words = LINES[-1].split(" ")
        for at in range(8):
            for word in ("", "none", words[at].upper() if at != 5 else "3", words[at - 1], "True", "False", "1.0"):
                spoilt = words[:at] + [word] + words[at + 1:]
                self.wrong(LINES[:-1] + [" ".join(spoilt)], 7)
        for line in (" ".join(words[:-1]), " ".join(words + ["wait"]), " ".join(words[::-1])):
            self.wrong(LINES[:-1] + [line], 7)

    def test_the_first_wrong_line_decides(self):
        self.wrong(["side 0", "factor 9", "edge"], 1)
        self.wrong(["side 4", "factor 9", "edge"], 2)
        self.wrong(["side 4", "factor 4", "edge"], 3)
        self.wrong(["side 4", "edge 0 0 0 0", "edge 0 0 0 0", "cares"], 3)

    def test_words_of_other_lines(self):
        for at in range(len(LINES)):
            for word in ("Side 4", "factors 2", "edge", "cares", "side", "factor", "book", "0"):
                self.wrong(LINES[:at] + [word] + LINES[at + 1:], at + 1)

    def test_values_of_other_kinds(self):
        self.fails_always(lambda value: InvalidText(1), read_book, NO_STRINGS + [LINES, joined(LINES).encode()])


class LineOf(Case):

    def test_each_word(self):
        for deed, line in ((("edit", 3, 4), "edit 3 4"), (("begin", 0, -7), "begin 0 -7"), (("end", 1), "end 1"),
                           (("look", 1, -2, -1), "look 1 -2 -1"), (("edit", 4, 3), "edit 4 3"),
                           (("end", FAR), f"end {FAR}"), (("edit", -10 ** 39, 0), f"edit -{10 ** 39} 0")):
            self.same([line_of(deed), read_deed(line)], [line, deed])
        self.same([line_of(deed=("end", 0)), read_deed(line="end 0")], ["end 0", ("end", 0)])

    def test_no_deeds(self):
        self.fails_always(InvalidDeed, line_of, NO_DEEDS)


class ReadDeed(Case):

    def test_no_lines(self):
        wrong = ["edit", "edit 3", "edit 3 4 5", "edit  3 4", " edit 3 4", "edit 3 4 ", "edit 3 4\n", "Edit 3 4",
                 "edit 03 4", "edit +3 4", "edit -0 4", "edit 3 four", "edit 3.0 4", "edit 3,4", "edit 3 - 4",
                 "begin 0", "begin 0 0 0", "end", "end  0", "end 0 0", "end True", "look 0 0", "look 0 0 0 0", "undo",
                 "busy", "version 0 1 4", "marked 1", "edit 3\n4", "\nedit 3 4", "edit\t3\t4", "3 4", "edit 3 -", "-",
                 "edit -3 --4", "", " ", "end "]
        for line in wrong + NO_STRINGS + [b"edit 3 4", ("edit", 3, 4), None]:
            self.fails(InvalidText(1), read_deed, line)


class Interface(Case):

    def test_the_names_of_the_parameters(self):
        self.takes(text_of, "book")
        self.takes(read_book, "text")
        self.takes(line_of, "deed")
        self.takes(read_deed, "line")


if __name__ == "__main__":
    unittest.main()
