"""Books: margins with cares."""

import inspect
import unittest
from itertools import product

from onceseen.books import Book
from onceseen.errors import InvalidCare, LimitError, StripError, TooMany
from onceseen.history import History
from onceseen.ladders import Ladder
from onceseen.margins import Margins
from tests.checking import FAR, Case

PLAIN = Margins(Ladder(4, [2]))
OTHER = Margins(Ladder(4, [2]), [(0, 0), (1, 0)])
TALL = Margins(Ladder(1, [2, 3], [(1, 0), (0, 2), (6, 6)]))

# The table of the document, in its sequence.
WORDS = {
    "source": ["finer", "drawing"], "order": ["any", "finest", "settled"], "unmark": ["begin", "end"],
    "drop": [True, False], "hands": [1, 2], "alone": [True, False], "wait": [True, False],
}
DEFAULTS = {"source": "finer", "order": "settled", "unmark": "begin", "drop": False, "hands": 1, "alone": True,
            "wait": True}
ALL_CARES = [dict(zip(WORDS, words)) for words in product(*WORDS.values())]

NO_NAMES = ["", "Source", "margins", "ladder", "cares", "sources", None, True, 0, 1, (), ("source",), ["source"],
            {"source": 1}, {"source"}, b"source", PLAIN]


def no_words(name):
    """Values that are no word of the care."""
    wrong = [None, "", "Finer", "words", (), [], {}, set(), b"finer", 3, -1, FAR, PLAIN, History(), ("finer",),
             ["any"], {"end": 1}, WORDS[name], tuple(WORDS[name])]
    others = [word for words in WORDS.values() for word in words] + [0]
    for word in others:
        if not any(type(word) is type(own) and word == own for own in WORDS[name]):
            wrong.append(word)
    return wrong


class Making(Case):

    def test_the_words_by_themselves(self):
        book = Book(PLAIN)
        for name, word in DEFAULTS.items():
            self.same(getattr(book, name), word)
        self.assertEqual([book.margins, book.ladder], [PLAIN, PLAIN.ladder])

    def test_each_word_of_each_care(self):
        for cares in ALL_CARES:
            book = Book(PLAIN, **cares)
            for name, word in cares.items():
                self.same(getattr(book, name), word)
            self.same(book.cares(), cares)

    def test_the_keys_of_cares_are_sorted(self):
        self.same(list(Book(PLAIN).cares()), ["alone", "drop", "hands", "order", "source", "unmark", "wait"])
        self.same(Book(PLAIN).cares(), DEFAULTS)

    def test_a_returned_dict_is_new(self):
        book = Book(PLAIN)
        book.cares()["order"] = "any"
        book.cares().clear()
        self.same([book.cares(), book.order], [DEFAULTS, "settled"])

    def test_one_level_and_as_many_as_are_let(self):
        for factors in ([], [2], [2, 3]):
            margins = Margins(Ladder(3, factors))
            self.assertEqual(Book(margins).margins, margins)
            self.assertEqual(Book(margins).ladder.levels, len(factors) + 1)

    def test_too_many_levels(self):
        self.fails(TooMany("levels", 3), Book, Margins(Ladder(1, [2, 2, 2])))
        self.fails(TooMany("levels", 3), Book, Margins(Ladder(1, [2, 2, 2]), [(9, 0)] * 4))
        with self.assertRaises(LimitError):
            Book(Margins(Ladder(1, [2, 2, 2])), order="none")

    def test_margins_as_great_as_the_side_and_one_more(self):
        ladder = Ladder(4, [2, 2])
        for at, side in ((0, 4), (1, 8), (2, 16)):
            for margin in ((side, side), (side, 0), (0, side)):
                pairs = [(4, 4), (8, 8), (16, 16)]
                pairs[at] = margin
                self.assertEqual(Book(Margins(ladder, pairs)).margins.pairs(), pairs)
            for margin in ((side + 1, 0), (0, side + 1), (FAR, FAR)):
                pairs = [(0, 0), (0, 0), (0, 0)]
                pairs[at] = margin
                self.fails(TooMany("margin", side), Book, Margins(ladder, pairs))
                pairs[2] = (17, 0)
                self.fails(TooMany("margin", side), Book, Margins(ladder, pairs))
        self.assertEqual(Book(Margins(Ladder(FAR), [(FAR, FAR)])).margins.pair(0), (FAR, FAR))
        self.fails(TooMany("margin", FAR), Book, Margins(Ladder(FAR), [(FAR, FAR + 1)]))

    def test_margins_need_not_be_enough(self):
        self.same(Book(Margins(Ladder(4, [], [(2, 2)]), [(0, 0)])).margins.is_enough(), False)

    def test_no_word(self):
        for name in WORDS:
            for value in no_words(name):
                self.fails(InvalidCare(name, value), Book, PLAIN, **{name: value})

    def test_the_first_care_in_their_sequence_decides(self):
        names = list(WORDS)
        for first, second in product(range(7), repeat=2):
            if first < second:
                wrong = {names[second]: None, names[first]: "none"}
                self.fails(InvalidCare(names[first], "none"), Book, PLAIN, **wrong)
        self.fails(InvalidCare("source", 0), Book, PLAIN, **{name: 0 for name in reversed(names)})

    def test_margins_come_ahead_of_cares(self):
        self.fails(TooMany("margin", 4), Book, Margins(Ladder(4), [(5, 0)]), source=None)
        with self.assertRaises(StripError):
            Book(PLAIN, wait=1)

    def test_true_is_not_1(self):
        for name, value in (("hands", True), ("drop", 1), ("drop", 0), ("alone", 1), ("wait", 0)):
            self.fails(InvalidCare(name, value), Book, PLAIN, **{name: value})

    def test_cares_are_passed_by_name(self):
        with self.assertRaises(TypeError):
            Book(PLAIN, "finer")
        self.assertEqual(Book(margins=PLAIN, wait=False), Book(PLAIN, wait=False))


class WithCare(Case):

    def test_another_word(self):
        for name, words in WORDS.items():
            for word in words:
                book = Book(PLAIN).with_care(name, word)
                self.same(book.cares(), {**DEFAULTS, name: word})
                self.assertEqual(book.margins, PLAIN)
                self.assertIs(type(book), Book)

    def test_the_other_words_stay(self):
        for cares in ALL_CARES[::11]:
            book = Book(PLAIN, **cares)
            self.same(book.with_care(value="any", name="order").cares(), {**cares, "order": "any"})
            self.same(book.cares(), cares)

    def test_no_word(self):
        for name in WORDS:
            for value in no_words(name):
                self.fails(InvalidCare(name, value), Book(PLAIN).with_care, name, value)

    def test_no_name(self):
        for name in NO_NAMES:
            for value in ("finer", None, True):
                self.fails(InvalidCare(name, value), Book(PLAIN).with_care, name, value)


def plain_stricter(one, other):
    """Whether the cares are at least as strict, by the words of the document."""
    orders = {("settled", "finest"), ("settled", "any"), ("finest", "any")}
    return (one["source"] == other["source"] and one["unmark"] == other["unmark"] and one["drop"] == other["drop"]
            and (one["order"] == other["order"] or (one["order"], other["order"]) in orders)
            and one["hands"] <= other["hands"]
            and (one["alone"] or not other["alone"]) and (one["wait"] or not other["wait"]))


class Strictness(Case):

    def test_all_cares_by_the_words(self):
        books = [(cares, Book(PLAIN, **cares)) for cares in ALL_CARES]
        for (one, strict), (other, free) in product(books, repeat=2):
            self.assertIs(strict <= free, plain_stricter(one, other))

    def test_other_margins(self):
        self.same(Book(PLAIN) <= Book(PLAIN), True)
        for margins in (OTHER, Margins(Ladder(4, [2], [(0, 0), (1, 0)])), Margins(Ladder(4)), PLAIN * 2):
            self.same([Book(PLAIN) <= Book(margins), Book(margins) <= Book(PLAIN)], [False, False])
        self.same(Book(PLAIN) <= Book(Margins(Ladder(4, [2]), [(0, 0), (0, 0)])), True)


class Comparing(Case):

    def test_equal_and_unequal(self):
        books = [Book(PLAIN, **cares) for cares in ALL_CARES]
        again = [Book(Margins(Ladder(4, [2])), **cares) for cares in ALL_CARES]
        for (at, one), (place, other) in product(enumerate(books), enumerate(again)):
            self.assertIs(one == other, at == place)
            self.assertIs(one != other, at != place)
        self.assertFalse(Book(PLAIN) == Book(OTHER))

    def test_values_of_another_kind(self):
        for other in (PLAIN, DEFAULTS, None, True, History(), Book, repr(Book(PLAIN))):
            self.assertFalse(Book(PLAIN) == other)
            self.assertTrue(Book(PLAIN) != other)

    def test_repr(self):
        self.assertEqual(repr(Book(PLAIN)), (
            "Book(Margins(Ladder(4, [2], [(0, 0), (0, 0)]), [(0, 0), (0, 0)]), source='finer', order='settled', "
            "unmark='begin', drop=False, hands=1, alone=True, wait=True)"))
        self.assertEqual(repr(Book(TALL, wait=False, drop=True, hands=2, source="drawing")), (
            f"Book({TALL!r}, source='drawing', order='settled', unmark='begin', drop=True, hands=2, alone=True, "
            "wait=False)"))
        for cares in ALL_CARES:
            self.assertEqual(eval(repr(Book(TALL, **cares))), Book(TALL, **cares))


class Interface(Case):

    def test_all_that_is_listed_stands_in_the_class_itself(self):
        self.stands_in(Book, "onceseen.books", ["__init__", "cares", "with_care", "__le__", "__eq__", "__repr__"],
                       ["margins", "ladder", *WORDS])
        params = inspect.signature(Book).parameters
        self.assertEqual(list(params), ["margins", *WORDS])
        for name in WORDS:
            self.assertIs(params[name].kind, inspect.Parameter.KEYWORD_ONLY)
            self.same(params[name].default, DEFAULTS[name])
        self.takes(Book(PLAIN).with_care, "name", "value")

    def test_properties_are_not_assigned(self):
        for name in ("margins", "ladder", *WORDS):
            with self.assertRaises(AttributeError):
                setattr(Book(PLAIN), name, True)


if __name__ == "__main__":
    unittest.main()
