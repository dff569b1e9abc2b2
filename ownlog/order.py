"""The order of the rows that calls make, and where two rows differ after the same calls."""

from ownlog.errors import TooLong
from ownlog.far import shown_places
from ownlog.kinds import MOST_LETTERS
from ownlog.maps import showing
from ownlog.rows import made


def all_made(row):
    """Return the rows that calls make, in the order of the called places."""
    return [made(row, place) for place in range(len(row))]


def sorted_calls(row):
    """Return all places, in ascending order of the rows that their calls make, then of the places."""
    return [place for _, place in sorted([(new, place) for place, new in enumerate(all_made(row))])]


def outer_story(row, calls, to_greatest):
    """Return the first story of so many calls that leads to the greatest row, or else to the least one."""
    if ((len(row) - 1) << calls) + 1 > MOST_LETTERS:
        raise TooLong(MOST_LETTERS)
    story = []
    best = row
    for _ in range(calls):
        # A call of a place keeps the order of rows, so only the best row leads to the best one.
        found = all_made(best)
        best = max(found) if to_greatest else min(found)
        story.append(found.index(best))
    return story


def least_story(row, calls):
    """Return the first story of so many calls that leads to the least row."""
    return outer_story(row, calls, False)


def greatest_story(row, calls):
    """Return the first story of so many calls that leads to the greatest row."""
    return outer_story(row, calls, True)


def unlike_places(row, other):
    """Return the places in which the letters of two rows of one length are different, in ascending order."""
    return [place for place in range(len(row)) if row[place] != other[place]]


def first_difference(row, other, story):
    """Return the least place in which the long rows are different."""
    first = unlike_places(row, other)[0]
    last = len(row) - 1
    for called in story:
        # Of two places, the lesser one is shown first.
        first = showing(last, called, first)[0]
        last = 2 * last
    return first


def last_difference(row, other, story):
    """Return the greatest place in which the long rows are different."""
    greatest = unlike_places(row, other)[-1]
    last = len(row) - 1
    for called in story:
        greatest = showing(last, called, greatest)[-1]
        last = 2 * last
    return greatest


def differences(row, other, story):
    """Return the number of places in which the long rows are different."""
    last = len(row) - 1
    many = len(unlike_places(row, other))
    for at, called in enumerate(story):
        origin = shown_places(last << at, story[:at], called)[-1]
        # A call shows each place twice, except the called one.
        many = 2 * many - int(row[origin] != other[origin])
    return many
