"""Desks: a run of a book to which commands are given as lines, and which answers by strings."""

from onceseen.checks import DEED_NUMBERS
from onceseen.errors import CommandFailed, InvalidCommand, LimitError, MissingError, StateError, StripError
from onceseen.runs import Run
from onceseen.texts import line_of, numbers_of

# How many numbers stand behind the word of a command that is no deed.
QUESTION_NUMBERS = {"version": 3, "marked": 1, "busy": 0, "rest": 0, "undo": 0}

LOGGED = ("edit", "begin", "end")


def _words_of(command):
    """The word of any value that is a command, and the list of its numbers."""
    if not isinstance(command, str):
        raise InvalidCommand(command)
    word, *rest = command.split(" ")
    many = DEED_NUMBERS.get(word, QUESTION_NUMBERS.get(word))
    numbers = numbers_of(rest)
    if many is None or numbers is None or len(numbers) != many:
        raise InvalidCommand(command)
    return (word, numbers)


def _joined(words):
    """The words of an answer that may have none."""
    return " ".join([str(word) for word in words]) if words else "-"


def _deed_answer(run, word, numbers):
    """Do the deed; the answer."""
    told = run.do((word, *numbers))
    if word == "end":
        return "put" if told else "dropped"
    if word == "look":
        if told is None:
            return "never"
        begin, end = told
        return f"{begin} {end}"
    return str(told)


def _answer(run, command):
    """Do the command with the run; the answer."""
    word, numbers = _words_of(command)
    if word in DEED_NUMBERS:
        return _deed_answer(run, word, numbers)
    if word == "version":
        return str(run.version(*numbers))
    if word == "marked":
        return _joined(run.marked(*numbers))
    if word == "busy":
        return _joined([f"{level}/{tile}" for _, level, tile in run.busy()])
    if word == "rest":
        return "yes" if run.at_rest else "no"
    return line_of(run.undo())


def _tried(run, commands):
    """The answers to all of these commands, and a copy of the run behind them; the run itself stays as it is."""
    after = run.copy()
    answers = []
    for position, command in enumerate(commands):
        try:
            answers.append(_answer(after, command))
        except (StripError, MissingError, StateError, LimitError) as e:
            raise CommandFailed(position) from e
    return (answers, after)


class Desk:
    """A book and a run of it; its commands change the run."""

    def __init__(self, book):
        self._run = Run(book)

    @classmethod
    def from_log(cls, book, lines):
        """The Desk behind the edits, begins and ends whose lines are listed."""
        desk = cls(book)
        for position, line in enumerate(lines):
            try:
                if _words_of(line)[0] not in LOGGED:
                    raise InvalidCommand(line)
                desk.do(line)
            except (StripError, MissingError, StateError, LimitError) as e:
                raise CommandFailed(position) from e
        return desk

    def do(self, command):
        """Do the command; the answer."""
        return _answer(self._run, command)

    def do_all(self, *commands):
        """Do all of these commands, or none; the list of the answers."""
        answers, after = _tried(self._run, commands)
        self._run = after
        return answers

    def attempt(self, *commands):
        """The list of the answers, without any effect."""
        answers, _ = _tried(self._run, commands)
        return answers

    def log(self):
        """The list of the lines of the deeds, without looks, that were done and not taken back."""
        return [line_of(deed) for deed in self._run.deeds()]

    def shown(self, look, cells):
        """The Content of all pairs with these cells that the tiles of the look show."""
        return self._run.content(look, cells)
