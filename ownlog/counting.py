"""The stories that lead to a tally: how many there are, and the number of each.

The tally and the number of calls determine the called letters. So each call may choose every place with its letter,
whatever the calls before it have chosen, and a story is a number whose digits are the numbers of these choices.
"""

from ownlog.errors import NoLetter, NoNumber, NotCalled
from ownlog.far import called_letters
from ownlog.reading import row_marks
from ownlog.tallies import called, tally_after, tally_made


def letters_to(row, tally, calls):
    """Return the letters that so many calls choose to lead to the tally, or None if none lead to it."""
    try:
        letters = called(tally, calls)
        late = tally_made(row, letters)
    except (NotCalled, NoLetter):
        return None
    if late != tally:
        return None
    return letters


def marks_of(row, letters):
    """Return the places of the row with each of these letters."""
    return {letter: row_marks(row, letter) for letter in sorted(set(letters))}


def call_all(marks, place):
    """Do a call of a place to the marks of all letters."""
    for own in list(marks.values()):
        own.call(place)


def stories_many(row, tally, calls):
    """Return the number of stories of so many calls by which the row leads to the tally."""
    letters = letters_to(row, tally, calls)
    if letters is None:
        return 0
    many = 1
    tally_then = tally_made(row, "")
    for letter in letters:
        many = many * dict(tally_then)[letter]
        tally_then = tally_after(tally_then, letter)
    return many


def story_of(row, tally, calls, number):
    """Return the story with a number among those by which the row leads to the tally."""
    many = stories_many(row, tally, calls)
    if number >= many:
        raise NoNumber(number)
    letters = letters_to(row, tally, calls)
    marks = marks_of(row, letters)
    story = []
    rest = number
    for letter in letters:
        many = many // marks[letter].total()
        place = marks[letter].numbered(rest // many)
        rest = rest % many
        story.append(place)
        call_all(marks, place)
    return story


def story_number(row, story):
    """Return the number of the story among those with its tally and its number of calls."""
    letters = called_letters(row, story)
    marks = marks_of(row, letters)
    number = 0
    for letter, place in zip(letters, story):
        number = number * marks[letter].total() + marks[letter].before(place)
        call_all(marks, place)
    return number
