"""What values are: integers, letters, texts, rows, tallies and stories."""

MOST_LETTERS = 1000
MOST_CALLS = 64
MOST_TALLIED = 26
MOST_OF_A_LETTER = 10 ** 40


def is_integer(thing):
    """Return whether thing is an integer."""
    # True and False are of a kind of int, but no integers.
    return isinstance(thing, int) and not isinstance(thing, bool)


def has_only_letters(string):
    """Return whether all characters of a string are lowercase letters a to z."""
    for sign in string:
        if sign < "a" or sign > "z":
            return False
    return True


def is_text(thing, most):
    """Return whether thing is a text of 1 to most letters."""
    return isinstance(thing, str) and 1 <= len(thing) <= most and has_only_letters(thing)


def is_letter(thing):
    """Return whether thing is a letter."""
    return is_text(thing, 1)


def is_row(thing):
    """Return whether thing is a row."""
    return is_text(thing, MOST_LETTERS) and len(thing) >= 2


def is_tallied(thing):
    """Return whether thing is a tuple of a letter and a number that a tally may have."""
    if not isinstance(thing, tuple) or len(thing) != 2:
        return False
    letter, number = thing
    return is_letter(letter) and is_integer(number) and 1 <= number <= MOST_OF_A_LETTER


def is_tally(thing):
    """Return whether thing is a tally."""
    # The length is asked first, so that long lists are not looked through.
    if not isinstance(thing, list) or not 1 <= len(thing) <= MOST_TALLIED:
        return False
    if not all([is_tallied(item) for item in thing]):
        return False
    letters = [letter for letter, _ in thing]
    return letters == sorted(set(letters))


def is_story(last, thing):
    """Return whether thing is a story of a row with this last place."""
    if not isinstance(thing, list) or len(thing) > MOST_CALLS:
        return False
    last_then = last
    for place in thing:
        if not is_integer(place) or not 0 <= place <= last_then:
            return False
        last_then = 2 * last_then
    return True
