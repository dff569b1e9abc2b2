"""A Console does to a Book what lines say, and answers."""

from ownlog.books import Book
from ownlog.errors import NoBook, NoCommand, TooLong, Wrong
from ownlog.far import Far
from ownlog.kinds import is_row, is_text
from ownlog.notation import is_number, joined_words, show_far, show_tally
from ownlog.pasts import past
from ownlog.tallies import tally
from ownlog.wishes import begins, ends, stands

MOST_SIGNS = 4000
MOST_DIGITS = 100
MOST_WISHED = 12
MOST_LOOKED_AT = 100
ALONE = ("back", "unwind", "show", "tally", "past")
WISHED = ("begins", "ends", "stands")


def is_place(word):
    """Return whether a word is an integer of at most 100 digits."""
    digits = word.removeprefix("-")
    return is_number(digits) and len(digits) <= MOST_DIGITS and word != "-0"


def is_command(words):
    """Return whether the words of a line are one of those that a Console knows."""
    if len(words) == 1:
        return words[0] in ALONE
    if len(words) != 2:
        return False
    word, rest = words
    if word == "row":
        return is_row(rest)
    if word == "call":
        return is_place(rest)
    return word in WISHED and is_text(rest, MOST_WISHED)


def wish_answer(row, word, text):
    """Return what is answered to a wish."""
    if len(row) > MOST_LOOKED_AT:
        raise TooLong(MOST_LOOKED_AT)
    if word == "begins":
        told, _ = begins(row, text)
    elif word == "ends":
        told, _ = ends(row, text)
    else:
        told, _ = stands(row, text)
    return "yes" if told == "story" else "never"


def past_answer(row):
    """Return the past of a row, as a Far is shown."""
    seed, story = past(row)
    return show_far(Far(seed, story))


class Console:
    """It has a Book, or none, and does what lines say."""

    def __init__(self):
        self._book = None

    def say(self, line):
        """Do what a line says, and return the answer."""
        if not isinstance(line, str) or len(line) > MOST_SIGNS:
            raise Wrong(0)
        words = line.split(" ")
        if not is_command(words):
            raise NoCommand()
        if words[0] == "row":
            self._book = Book(words[1])
            return words[1]
        if self._book is None:
            raise NoBook()
        if len(words) == 2:
            return self._told(words[0], words[1])
        return self._done(words[0])

    def _told(self, word, rest):
        """Do what a line of two words says to the Book, and return the answer."""
        if word == "call":
            return self._book.call(int(rest))
        return wish_answer(self._book.row(), word, rest)

    def _done(self, word):
        """Do what a line of one word says to the Book, and return the answer."""
        if word == "back":
            return joined_words(self._book.back())
        if word == "unwind":
            return str(self._book.unwind())
        if word == "tally":
            return show_tally(tally(self._book.row()))
        if word == "past":
            return past_answer(self._book.row())
        return self._book.row()
