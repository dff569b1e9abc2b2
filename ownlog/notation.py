"""Notation: long rows and tallies as words, separated by one blank."""

from ownlog.errors import NoText
from ownlog.far import Far
from ownlog.kinds import MOST_CALLS, MOST_OF_A_LETTER, is_letter, is_row


def is_number(word):
    """Return whether a word is an integer that is not negative, in decimal digits without leading zeros."""
    for sign in word:
        if sign < "0" or sign > "9":
            return False
    return word != "" and (word == "0" or word[0] != "0")


def is_number_to(most, word):
    """Return whether a word is an integer from 0 to most."""
    # The length is asked first, so that no long word is read as a number.
    return is_number(word) and len(word) <= len(str(most)) and int(word) <= most


def joined_words(things):
    """Return the words of some things, with one blank between each two."""
    return " ".join([str(thing) for thing in things])


def show_far(far):
    """Return the row and the calls of a Far, as words."""
    return joined_words([far.row()] + far.story())


def read_far(text):
    """Return the Far that a text shows."""
    row, *words = text.split(" ")
    if not is_row(row):
        raise NoText(0)
    last = len(row) - 1
    story = []
    for at, word in enumerate(words):
        if at >= MOST_CALLS or not is_number_to(last, word):
            raise NoText(at + 1)
        story.append(int(word))
        last = 2 * last
    return Far(row, story)


def show_tally(tally):
    """Return the letters of a tally, each with its number, as words."""
    return joined_words([f"{letter}{number}" for letter, number in tally])


def read_tally(text):
    """Return the tally that a text shows."""
    tally = []
    before = ""
    for at, word in enumerate(text.split(" ")):
        letter = word[:1]
        number = word[1:]
        # The letters ascend, so there are not more of them than a tally may have.
        if not is_letter(letter) or letter <= before:
            raise NoText(at)
        if number == "0" or not is_number_to(MOST_OF_A_LETTER, number):
            raise NoText(at)
        tally.append((letter, int(number)))
        before = letter
    return tally
