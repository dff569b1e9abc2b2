"""How a row was made: the seeds that lead to it, and the calls."""

from ownlog.elders import elders
from ownlog.errors import EqualEnds, Several, TooMany


def past(row):
    """Return the only past of the row."""
    seed = row
    story = []
    found = elders(seed)
    while found:
        many = sum([len(own) for _, own in found])
        if many > 1:
            raise Several(many)
        seed, places = found[0]
        story = places + story
        found = elders(seed)
    return seed, story


def pasts(row, *, limit=400):
    """Return all pasts of the row, in ascending order."""
    found = []
    trails = [(row, [])]
    while trails:
        longer = []
        for start, story in trails:
            before = elders(start)
            if not before:
                found.append((start, story))
            longer.extend([(older, [place] + story) for older, places in before for place in places])
            # Each trail goes back to at least one past, so it is enough to count trails.
            if len(found) + len(longer) > limit:
                raise TooMany(limit)
        trails = longer
    return sorted(found)


def far_past(far):
    """Return the seed of the row of a Far, and all calls from there on."""
    row = far.row()
    # Calls never change the ends, so those of the long row are those of the row.
    if row[0] == row[-1]:
        raise EqualEnds()
    seed, story = past(row)
    return seed, story + far.story()


def same(one, other):
    """Return whether two Fars are the same long row."""
    return far_past(one) == far_past(other)
