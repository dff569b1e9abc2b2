"""Tallies: how often each letter occurs, before and after calls."""

from ownlog.errors import NoLetter, NotCalled


def tally(row):
    """Return the tally of a row."""
    return [(letter, row.count(letter)) for letter in sorted(set(row))]


def far_tally(far):
    """Return the tally of the long row of a Far."""
    return tally_made(far.row(), far.called())


def tally_after(tally, letters):
    """Return the tally after calls of these letters, one after another."""
    known = [letter for letter, _ in tally]
    for at, letter in enumerate(letters):
        if letter not in known:
            raise NoLetter(at)
    result = list(tally)
    for chosen in letters:
        result = [(letter, 2 * number - int(letter == chosen)) for letter, number in result]
    return result


def tally_made(row, letters):
    """Return the tally of what calls of these letters make of a row."""
    return tally_after(tally(row), letters)


def last_called(tally):
    """Return the letter that was called last, or None if the tally is not one that a call has made."""
    odd = [letter for letter, number in tally if number % 2 == 1]
    # The shortest row has two letters, so a call makes at least three.
    if len(odd) != 1 or sum([number for _, number in tally]) < 3:
        return None
    return odd[0]


def halved(tally):
    """Return the tally before the last call, from one that a call has made."""
    # The number of the called letter is odd, as the call took 1 from the double of it.
    return [(letter, (number + 1) // 2) for letter, number in tally]


def tally_before(tally):
    """Return the letter that was called last, and the tally before this call."""
    letter = last_called(tally)
    if letter is None:
        raise NotCalled(0)
    return letter, halved(tally)


def letters_back(tally):
    """Return all called letters that the tally tells, the last one first."""
    letters = []
    tally_then = tally
    letter = last_called(tally_then)
    while letter is not None:
        letters.append(letter)
        tally_then = halved(tally_then)
        letter = last_called(tally_then)
    return letters


def most_called(tally):
    """Return how many times the tally can be led back."""
    return len(letters_back(tally))


def called(tally, calls):
    """Return the letters of the last so many calls, in the order of the calls."""
    letters = letters_back(tally)
    if len(letters) < calls:
        raise NotCalled(len(letters))
    return "".join(reversed(letters[:calls]))
