"""Runs of a letter in long rows."""

from ownlog.maps import shown


class Runs:
    """What a text tells of the runs of a letter in it.

    That is the size of the text, how many times the letter stands at its beginning and at its end, the number of
    the runs, and a tuple of the length of the longest ones and the negative of the place of the first of them.
    """

    def __init__(self, size, head, tail, many, longest):
        self.size = size
        self.head = head
        self.tail = tail
        self.many = many
        self.longest = longest


def joined_longest(one, other):
    """Return the longest run of two texts together, the first of several, with the negative of its place."""
    many, back = other.longest
    # Of tuples with the same length, the greatest one has the least place.
    return max(one.longest, (one.tail + other.head, one.tail - one.size), (many, back - one.size))


def joined(one, other):
    """Return what two texts tell together, one directly after the other."""
    head = one.head
    if head == one.size:
        head = head + other.head
    tail = other.tail
    if tail == other.size:
        tail = tail + one.tail
    many = one.many + other.many - int(one.tail > 0 and other.head > 0)
    return Runs(one.size + other.size, head, tail, many, joined_longest(one, other))


def at_cuts(parts, cuts):
    """Return the parts, joined where no cut is. A part is a tuple (start, runs), and 0 is a cut."""
    known = set(cuts)
    found = []
    for start, runs in parts:
        if start in known:
            found.append((start, runs))
        else:
            first, before = found.pop()
            found.append((first, joined(before, runs)))
    return found


def parts_after(parts, last, called):
    """Return the parts after a call; last is the last place before it, and there is a cut on each side of called."""
    before = [(start, runs) for start, runs in parts if start < called]
    after = [(start + last, runs) for start, runs in parts if start > called]
    return before + [(start + called, runs) for start, runs in parts] + after


def cuts_before(last, calls):
    """Return the cuts of the row and of what each call makes; last is the last place of the row.

    A row is cut on each side of the next called place, and where it shows the cuts of what that call makes. So
    between the cuts of a row stand the same parts of the row before, one after another, and they are few.
    """
    cuts = [[0]]
    for at in reversed(range(len(calls))):
        last_then = last << at
        places = [shown(last_then, calls[at], cut) for cut in cuts[-1]]
        places.extend([calls[at], calls[at] + 1])
        cuts.append(sorted(set([place for place in places if place <= last_then])))
    return list(reversed(cuts))


def letter_parts(row, letter):
    """Return one part for each letter of a row."""
    found = []
    for place, own in enumerate(row):
        here = int(own == letter)
        found.append((place, Runs(1, here, here, here, (here, 0))))
    return found


def far_runs(far, letter):
    """Return what the long row tells of the runs of a letter."""
    row = far.row()
    last = len(row) - 1
    story = far.story()
    cuts = cuts_before(last, story)
    parts = at_cuts(letter_parts(row, letter), cuts[0])
    for at, called in enumerate(story):
        parts = at_cuts(parts_after(parts, last << at, called), cuts[at + 1])
    _, runs = parts[0]
    return runs


def longest_run(far, letter):
    """Return the length of the longest runs of the letter, and the place at which the first of them starts."""
    many, back = far_runs(far, letter).longest
    if many == 0:
        return 0, None
    return many, -back


def runs_many(far, letter):
    """Return the number of runs of the letter."""
    return far_runs(far, letter).many
