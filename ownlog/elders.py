"""The rows of which a call makes a row, and the lists that show that there is none."""

from ownlog.errors import NoElder, Several
from ownlog.kinds import is_integer
from ownlog.maps import shown
from ownlog.rows import made


def places_many(row):
    """Return how many places an elder of the row would have: none if the length is even."""
    if len(row) % 2 == 0:
        return 0
    return len(row) // 2 + 1


def elders(row):
    """Return the elders of the row with their places, in ascending order of the first ones."""
    many = places_many(row)
    found = {}
    for place in range(many):
        # After a call, what stands from the called place on is the whole row before it.
        before = row[place:place + many]
        if made(before, place) == row:
            found.setdefault(before, []).append(place)
    return list(found.items())


def elder(row):
    """Return the only elder of the row, with its places."""
    found = elders(row)
    if not found:
        raise NoElder()
    if len(found) > 1:
        raise Several(len(found))
    return found[0]


def first_unlike(row, one, other, many):
    """Return the least distance below many at which the letters after two places differ, or None."""
    if row[one:one + many] == row[other:other + many]:
        return None
    at = 0
    while row[one + at] == row[other + at]:
        at += 1
    return at


def least_obstacle(row, place):
    """Return the least obstacle of a row of odd length at a place, or None if there is none."""
    last = len(row) // 2
    at = first_unlike(row, 0, place, place)
    if at is not None:
        return place, at, place + at
    after = 2 * place + 1
    many = last - place
    at = first_unlike(row, after, after + many, many)
    if at is not None:
        return place, after + at, after + many + at
    return None


def obstacles(row):
    """Return the least obstacle for each place, or None if the row has an elder."""
    found = [least_obstacle(row, place) for place in range(places_many(row))]
    if None in found:
        return None
    return found


def is_obstacle(row, place, thing):
    """Return whether thing is an obstacle of a row of odd length at a place."""
    if not isinstance(thing, tuple) or len(thing) != 3:
        return False
    if not all([is_integer(part) for part in thing]):
        return False
    own, one, other = thing
    if own != place or not 0 <= one < other < len(row):
        return False
    last = len(row) // 2
    return shown(last, place, one) == shown(last, place, other) and row[one] != row[other]


def are_obstacles(row, thing):
    """Return whether thing is a list of one obstacle for each place, and so shows that the row is a seed."""
    if not isinstance(thing, list) or len(thing) != places_many(row):
        return False
    return all([is_obstacle(row, place, item) for place, item in enumerate(thing)])
