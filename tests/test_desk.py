"""Desks: commands as lines, and their answers."""

import random
import unittest

from onceseen.books import Book
from onceseen.contents import Content
from onceseen.desk import Desk
from onceseen.errors import (AtWork, CommandFailed, InvalidCell, InvalidCommand, InvalidHand, InvalidLevel, InvalidLook,
                             InvalidStretch, LimitError, MissingError, MustWait, NoHand, NotHeld, NothingToUndo,
                             NotMarked, OutOfOrder, StateError, StripError, TooMany)
from onceseen.ladders import Ladder
from onceseen.margins import Margins
from onceseen.runs import Run
from onceseen.texts import line_of
from tests.checking import FAR, NO_INTEGERS, NO_LISTS, Case, no_looks
from tests.drawing import drawn_book

PLAIN = Margins(Ladder(4, [2]))
STRICT, LOOSE = Book(PLAIN), Book(PLAIN, order="any", wait=False)
TWO = Book(PLAIN, hands=2)
OWN_ERRORS = (StripError, MissingError, StateError, LimitError)

NO_COMMANDS = NO_INTEGERS + [
    0, 3, "", " ", "Edit 3 4", "edit", "edit 3", "edit 3 4 5", "edit  3 4", " edit 3 4", "edit 3 4 ", "edit 3 4\n",
    "edit 03 4", "edit +3 4", "edit -0 4", "edit three 4", "edit 3.0 4", "4 3 edit", "3 edit 4", "edit3 4", "begin",
    "begin 0", "begin 0 0 0", "0 begin 0", "end", "end 0 0", "end x", "0 end", "look 0 0", "look 0 0 0 0", "look",
    "version", "version 0 1", "version 0 1 4 4", "version 0 1 x", "4 1 0 version", "marked", "marked 0 1", "marked x",
    "0 marked", "marked -", "busy 0", "busy ", " busy", "Busy", "busy busy", "rest yes", "rest 0", "undo 1",
    "undo undo",
    "redo", "log", "undo\n", "busy\nrest", "edit 3 4\nrest", "end 0 ", "marked  0", "-", "put", "edit,3,4", b"busy",
    ("edit", 3, 4), ["busy"], ("busy",),
]


def behind(book, *commands):
    """A desk of the book behind these commands."""
    desk = Desk(book)
    desk.do_all(*commands)
    return desk


def told(desk):
    """All that a desk tells, for tiles and cells near by."""
    questions = [f"marked {level}" for level in (0, 1)] + ["busy", "rest"]
    questions += [f"version 0 {tile} {4 * tile + cell}" for tile in range(-2, 4) for cell in range(4)]
    questions += [f"version 1 {tile} {8 * tile + cell}" for tile in range(-1, 2) for cell in range(8)]
    return [desk.attempt(*questions), desk.log(), desk.shown((1, -1, 0), list(range(-9, 9)))]


class Answers(Case):

    def test_the_printed_values(self):
        desk = Desk(TWO)
        self.same(desk.do_all("edit 3 4", "begin 0 0", "begin 0 1", "busy", "end 1", "version 0 1 4", "marked 1",
                              "rest"), ["1", "0", "1", "0/0 0/1", "put", "1", "0", "no"])

    def test_each_command(self):
        desk = Desk(Book(PLAIN, drop=True, wait=False))
        for command, answer in (
                ("rest", "yes"), ("busy", "-"), ("marked 0", "-"), ("look 0 0 1", "0 1"), ("edit -1 4", "1"),
                ("marked 0", "-1 0 1"), ("marked 1", "-1 0"), ("rest", "no"), ("begin 0 0", "0"), ("busy", "0/0"),
                ("version 0 0 3", "0"), ("edit 3 3", "2"), ("end 0", "dropped"), ("begin 0 0", "0"), ("end 0", "put"),
                ("version 0 0 3", "2"), ("version 0 0 0", "1"), ("look 0 0 0", "2 3"), ("look 0 0 1", "never"),
                ("look 0 5 5", "0 3"), ("undo", "end 0"), ("busy", "0/0"), ("undo", "begin 0 0"), ("busy", "-"),
                ("undo", "end 0"), ("undo", "edit 3 3"), ("undo", "begin 0 0"), ("undo", "edit -1 4"), ("rest", "yes")):
            self.same([command, desk.do(command)], [command, answer])
        self.same(desk.log(), [])

    def test_numbers_below_0_and_far_ones(self):
        desk = Desk(Book(PLAIN * FAR))
        self.same(desk.do(f"edit -{FAR} {FAR}"), "1")
        self.same(desk.do_all("marked 0", "marked 1", "begin 0 -1", "busy", f"version 0 -1 -{FAR}", "end 0"),
                  ["-1 0", "-1 0", "0", "0/-1", "0", "put"])
        self.same(desk.do(command=f"version 0 -1 -{FAR}"), "1")
        self.same(desk.log(), [f"edit -{FAR} {FAR}", "begin 0 -1", "end 0"])

    def test_by_hands(self):
        desk = behind(TWO, "edit 0 15", "begin 0 3", "begin 0 1", "end 0")
        self.same([desk.do("busy"), desk.do("begin 0 2"), desk.do("busy")], ["0/1", "0", "0/2 0/1"])

    def test_looks_are_not_logged(self):
        desk = behind(LOOSE, "edit 3 4", "look 0 0 1", "begin 0 0", "look 0 0 0", "busy", "rest", "end 0", "look 0 0 1")
        self.same(desk.log(), ["edit 3 4", "begin 0 0", "end 0"])
        self.same([desk.do("undo"), desk.log()], ["end 0", ["edit 3 4", "begin 0 0"]])

    def test_shown(self):
        desk = behind(LOOSE, "edit 3 4", "begin 0 0", "end 0")
        self.assertEqual(desk.shown((0, 0, 1), [3, 4, 9]), Content([(3, 1), (4, 0)]))
        self.assertEqual(desk.shown(cells=(2,), look=(0, 0, 0)), Content([(2, 0)]))
        self.assertIs(type(desk.shown((0, 0, 1), [])), Content)
        for look in no_looks(2):
            self.fails(InvalidLook(look), desk.shown, look, None)
        self.fails_always(InvalidCell, lambda value: desk.shown((0, 0, 0), value), NO_LISTS)
        for value in NO_INTEGERS:
            self.fails(InvalidCell(value), desk.shown, (0, 0, 0), [3, value])

    def test_returned_lists_are_new(self):
        desk = behind(LOOSE, "edit 3 4", "begin 0 0")
        kept = told(desk)
        desk.log().append("edit 0 0")
        desk.log().clear()
        desk.do_all("busy").clear()
        desk.attempt("busy").append(1)
        self.assertEqual(told(desk), kept)


class Refused(Case):

    def test_values_that_are_no_commands(self):
        desk = behind(LOOSE, "edit 3 4", "begin 0 0")
        kept = told(desk)
        for value in NO_COMMANDS:
            self.fails(InvalidCommand(value), desk.do, value)
            for call in (desk.do_all, desk.attempt):
                self.fails(CommandFailed(1), call, "edit 0 0", value, "end 0")
        self.assertEqual(told(desk), kept)

    def test_errors_of_the_run(self):
        desk = behind(Book(PLAIN, hands=2, unmark="end"), "edit 3 4", "begin 0 0")
        kept = told(desk)
        for command, error in (
                ("edit 4 3", InvalidStretch((4, 3))), ("edit 0 9999", TooMany("marks", 500)),
                ("begin 2 0", InvalidLevel(2)), ("begin -1 0", InvalidLevel(-1)), ("begin 0 9", NotMarked(0, 9)),
                ("begin 0 0", AtWork(0, 0)), ("begin 1 0", OutOfOrder(0)), ("end 1", InvalidHand(1)),
                ("end -1", InvalidHand(-1)), ("look 0 0 2", InvalidLook((0, 0, 2))),
                ("look 2 0 0", InvalidLook((2, 0, 0))),
                ("look 0 0 1", MustWait(0, 0)), ("look 1 -1 0", MustWait(1, 0)), ("version 2 0 0", InvalidLevel(2)),
                ("version 0 0 4", NotHeld(0, 0, 4)), ("marked 2", InvalidLevel(2)), ("marked -1", InvalidLevel(-1))):
            self.fails(error, desk.do, command)
            for call in (desk.do_all, desk.attempt):
                with self.assertRaises(CommandFailed) as caught:
                    call("busy", "edit 1 1", command, "nothing")
                self.same([caught.exception.position, vars(caught.exception.__cause__)], [2, vars(error)])
                self.assertIs(type(caught.exception.__cause__), type(error))
        self.assertEqual(told(desk), kept)
        self.fails(NoHand(), behind(STRICT, "edit 3 4", "begin 0 0").do, "begin 0 1")
        self.fails(NothingToUndo(), Desk(STRICT).do, "undo")

    def test_what_is_no_command_comes_ahead_of_the_run(self):
        self.fails(InvalidCommand("begin 9 x"), Desk(STRICT).do, "begin 9 x")
        self.fails(InvalidCommand("undo 9"), Desk(STRICT).do, "undo 9")


class All(Case):

    def test_all_or_none(self):
        desk = behind(LOOSE, "edit 3 4")
        kept = told(desk)
        self.fails(CommandFailed(2), desk.do_all, "begin 0 0", "end 0", "end 0", "rest")
        self.fails(CommandFailed(0), desk.do_all, None)
        self.assertEqual(told(desk), kept)
        self.same(desk.do_all("begin 0 0", "end 0", "rest"), ["0", "put", "no"])
        self.same(len(desk.log()), 3)

    def test_nothing(self):
        desk = behind(LOOSE, "edit 3 4")
        self.same([desk.do_all(), desk.attempt(), desk.log()], [[], [], ["edit 3 4"]])

    def test_undo_to_the_beginning_and_beyond(self):
        desk = behind(LOOSE, "edit 3 4", "begin 0 0")
        kept = told(desk)
        with self.assertRaises(CommandFailed) as caught:
            desk.do_all("undo", "undo", "rest", "undo")
        self.assertIs(type(caught.exception.__cause__), NothingToUndo)
        self.same(caught.exception.position, 3)
        self.assertEqual(told(desk), kept)
        self.same(desk.attempt("undo", "undo", "rest"), ["begin 0 0", "edit 3 4", "yes"])
        self.assertEqual(told(desk), kept)
        self.same(desk.do_all("undo", "undo", "rest", "edit 9 9", "undo"),
                  ["begin 0 0", "edit 3 4", "yes", "1", "edit 9 9"])
        self.same(desk.log(), [])
        self.fails(NothingToUndo(), desk.do, "undo")

    def test_undo_of_earlier_deeds_is_taken_back_too(self):
        desk = behind(TWO, "edit 3 4", "begin 0 0", "begin 0 1", "end 0")
        kept = told(desk)
        self.fails(CommandFailed(4), desk.do_all, "undo", "undo", "edit 0 0", "begin 0 1", "end 5")
        self.assertEqual(told(desk), kept)
        self.same([desk.do("undo"), desk.do("busy")], ["end 0", "0/0 0/1"])

    def test_attempt(self):
        desk = behind(LOOSE, "edit 3 4")
        kept = told(desk)
        self.same(desk.attempt("begin 0 0", "end 0", "version 0 0 3", "look 0 0 1"), ["0", "put", "1", "never"])
        self.fails(CommandFailed(1), desk.attempt, "begin 0 0", "begin 0 0")
        self.assertEqual(told(desk), kept)

    def test_the_first_wrong_command_decides(self):
        with self.assertRaises(CommandFailed) as caught:
            Desk(STRICT).do_all("rest", "end 0", "no command")
        self.fails(InvalidHand(0), self.again, caught.exception)
        with self.assertRaises(CommandFailed) as caught:
            Desk(STRICT).attempt("rest", "no command", "end 0")
        self.fails(InvalidCommand("no command"), self.again, caught.exception)

    def again(self, error):
        raise error.__cause__


class FromLog(Case):

    def test_the_log_of_another_desk(self):
        for number in range(60):
            draw = random.Random(number)
            book = drawn_book(draw)
            desk, run = Desk(book), Run(book)
            for _ in range(30):
                deeds = [("edit", draw.randrange(-5, 5), draw.randrange(-5, 9)), ("end", draw.randrange(2)), ("undo",)]
                places = [(level, tile) for level in range(book.ladder.levels) for tile in run.marked(level)]
                deeds += [("begin", *place) for place in draw.sample(places, min(4, len(places)))]
                deed = draw.choice(deeds)
                try:
                    told_by_run = run.undo() if deed == ("undo",) else run.do(deed)
                except OWN_ERRORS as error:
                    self.fails(error, desk.do, " ".join(map(str, deed)))
                    continue
                answer = desk.do(" ".join(map(str, deed)))
                if deed == ("undo",):
                    self.same(answer, line_of(told_by_run))
                else:
                    words = {True: "put", False: "dropped"}
                    self.same(answer, words[told_by_run] if deed[0] == "end" else str(told_by_run))
            self.same(desk.log(), [line_of(deed) for deed in run.deeds()])
            again = Desk.from_log(book, desk.log())
            self.assertIs(type(again), Desk)
            self.same(again.log(), desk.log())
            self.same(again.attempt("busy", "rest", "marked 0"), desk.attempt("busy", "rest", "marked 0"))
            look = (0, -1, 0)
            self.assertEqual(again.shown(look, list(range(-9, 9))), desk.shown(look, list(range(-9, 9))))
            self.assertEqual(again.shown(look, list(range(-9, 9))), run.content(look, list(range(-9, 9))))

    def test_no_lines_and_tuples(self):
        self.same(Desk.from_log(STRICT, []).log(), [])
        self.same(Desk.from_log(lines=("edit 3 4", "begin 0 1"), book=STRICT).log(), ["edit 3 4", "begin 0 1"])

    def test_wrong_lines(self):
        for wrong in NO_COMMANDS + ["look 0 9 9", "version 0 0 0", "marked 0", "busy", "rest", "undo"]:
            for at in (0, 1, 2):
                lines = ["edit 3 4", "begin 0 0"]
                lines.insert(at, wrong)
                with self.assertRaises(CommandFailed) as caught:
                    Desk.from_log(STRICT, lines)
                self.same(caught.exception.position, at)
                self.assertIs(type(caught.exception.__cause__), InvalidCommand)
                self.same(caught.exception.__cause__.value, wrong)

    def test_lines_that_the_run_refuses(self):
        for wrong, error in (("edit 4 3", InvalidStretch((4, 3))), ("begin 0 5", NotMarked(0, 5)),
                             ("end 1", InvalidHand(1)), ("begin 0 1", NoHand()),
                             ("edit 0 9999", TooMany("marks", 500))):
            with self.assertRaises(CommandFailed) as caught:
                Desk.from_log(STRICT, ["edit 3 4", "begin 0 0", wrong, "look 0 0 0"])
            self.same([caught.exception.position, vars(caught.exception.__cause__)], [2, vars(error)])
            self.assertIs(type(caught.exception.__cause__), type(error))

    def test_the_lines_stay_as_they_were(self):
        lines = ["edit 3 4"]
        desk = Desk.from_log(STRICT, lines)
        desk.do("begin 0 0")
        lines.append("end 0")
        self.same([lines, desk.log()], [["edit 3 4", "end 0"], ["edit 3 4", "begin 0 0"]])


class Interface(Case):

    def test_all_that_is_listed_stands_in_the_class_itself(self):
        self.stands_in(Desk, "onceseen.desk", ["__init__", "do", "do_all", "attempt", "log", "shown", "from_log"])
        self.assertIsInstance(vars(Desk)["from_log"], classmethod)
        self.takes(Desk, "book")
        self.takes(Desk.from_log, "book", "lines")
        desk = Desk(STRICT)
        for call, names in ((desk.do, ["command"]), (desk.do_all, ["commands"]), (desk.attempt, ["commands"]),
                            (desk.log, []), (desk.shown, ["look", "cells"])):
            self.takes(call, *names)


if __name__ == "__main__":
    unittest.main()
