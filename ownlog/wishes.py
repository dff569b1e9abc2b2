"""Wishes: texts that rows made from a row begin with, end with, or have somewhere.

A call makes of a row what stands before the called place, then the whole row, then what stands after the called
place. So what stands in a row stands in all rows made from it, and new texts stand over the two cuts. What is said
of the end of a row is what is said of its beginning, read backward.
"""

from ownlog.errors import TooMany, TooShort
from ownlog.rows import made


def base_rows(row, size):
    """Return the base stories of the row for a size, in ascending order, with the rows to which they lead."""
    found = [([], row)]
    last = len(row) - 1
    while last < size:
        found = [(story + [place], made(late, place)) for story, late in found for place in range(last + 1)]
        last = 2 * last
    return found


def base_stories(row, size):
    """Return the base stories of the row for a size, in ascending order."""
    return [story for story, _ in base_rows(row, size)]


def parts_of(text):
    """Return the different parts of a text, the shorter ones first."""
    many = len(text)
    places = [(start, length) for length in range(1, many + 1) for start in range(many - length + 1)]
    return list({text[start:start + length]: True for start, length in places})


def ways_to(part):
    """Return the tuples (cut, longer): if a row begins with the longer piece, a call of the cut makes it the part."""
    ways = []
    for cut in range(1, len(part)):
        before = part[:cut]
        after = part[cut:]
        if after.startswith(before):
            ways.append((cut, after))
        elif before.startswith(after):
            ways.append((cut, before))
    return ways


def part_ways(text):
    """Return the different parts of a text, the shorter ones first, each with the ways to it."""
    return [(part, ways_to(part)) for part in parts_of(text)]


def part_calls(base, ways):
    """Return the parts that can begin for a base row, each with calls that lead to a row that it begins."""
    found = {}
    for part, own in ways:
        stories = [found[longer] + [cut] for cut, longer in own if longer in found]
        if base.startswith(part):
            found[part] = []
        elif stories:
            found[part] = min(stories, key=len)
    return found


def mirrored(last, calls):
    """Return the calls of a row with this last place that mirror the calls of the row read backward."""
    return [(last << at) - place for at, place in enumerate(calls)]


def begins(row, text):
    """Return a story to a row that the text begins, or the table of the parts that can begin."""
    ways = part_ways(text)
    table = []
    for story, base in base_rows(row, len(text)):
        calls = part_calls(base, ways)
        if text in calls:
            return "story", story + calls[text]
        table.append((story, sorted(calls)))
    return "never", table


def ends(row, text):
    """Return a story to a row that the text ends, or the table of the parts that can end."""
    backward = text[::-1]
    ways = part_ways(backward)
    table = []
    for story, base in base_rows(row, len(text)):
        calls = part_calls(base[::-1], ways)
        if backward in calls:
            return "story", story + mirrored(len(base) - 1, calls[backward])
        table.append((story, sorted([part[::-1] for part in calls])))
    return "never", table


def head_lengths(base, text):
    """Return the heads of a text, each with the lengths of the fewest texts of which it consists."""
    found = {0: []}
    for head in range(1, len(text) + 1):
        ways = [lengths + [head - start] for start, lengths in found.items() if base.endswith(text[start:head])]
        if ways:
            found[head] = min(ways, key=len)
    return found


def tail_lengths(base, text):
    """Return the tails of a text, each with the lengths of the fewest texts of which the rest consists."""
    many = len(text)
    found = head_lengths(base[::-1], text[::-1])
    return {many - head: list(reversed(found[head])) for head in reversed(sorted(found))}


def inside_way(base, text, heads, tails):
    """Return how a text can be made from a base row, with its heads and tails, or None if it cannot.

    That is the place and the length of a piece of the base row, and the lengths of the texts before and after it.
    """
    ways = [(len(heads[head]) + len(tails[tail]), head, tail)
            for head in heads for tail in tails if head < tail and text[head:tail] in base]
    if not ways:
        return None
    _, head, tail = min(ways)
    return base.find(text[head:tail]), tail - head, heads[head], tails[tail]


class Growing:
    """What calls make of a base row: the calls, the last place, and the place at which the base row stands in it.

    A call keeps as many letters of the beginning, and of the end, as stand before, and after, the called place. The
    first three calls make room on either side of the base row. They keep as many letters as its last place says,
    and so do all calls in or beside it from then on.
    """

    def __init__(self, last):
        self.calls = []
        self.last = last
        self.start = 0
        for place in (last, last, 2 * last):
            self.call(place)

    def call(self, place):
        """Do a call of a place."""
        self.calls.append(place)
        self.start = self.start + place
        self.last = 2 * self.last

    def take_in(self, way):
        """Do the calls after which a text stands in the row."""
        place, many, heads, tails = way
        at = self.start + place
        for length in reversed(heads):
            # The whole row, and then what stands from this place on: so this stands after the end of the row.
            again = self.last + at
            self.call(at - 1)
            at = again - length
            many = many + length
        for length in tails:
            # What stands up to here, and then the whole row: so this stands before the beginning of the row.
            self.call(at + many)
            many = many + length


def inside_calls(last, way):
    """Return the calls that make a text stand in a row made from a base row with this last place."""
    _, _, heads, tails = way
    if not heads and not tails:
        return []
    growing = Growing(last)
    growing.take_in(way)
    return growing.calls


def stands(row, text):
    """Return a story to a row in which the text stands, or the table of the heads and tails."""
    table = []
    for story, base in base_rows(row, len(text)):
        heads = head_lengths(base, text)
        tails = tail_lengths(base, text)
        way = inside_way(base, text, heads, tails)
        if way is not None:
            return "story", story + inside_calls(len(base) - 1, way)
        table.append((story, sorted(heads), sorted(tails)))
    return "never", table


WISHES = {"begin": begins, "end": ends, "stand": stands}


def is_fulfilled(row, text, where):
    """Return whether the text begins the row, ends it, or stands in it."""
    if where == "begin":
        return row.startswith(text)
    if where == "end":
        return row.endswith(text)
    return text in row


def shortest(row, text, where, *, limit=400):
    """Return the first of the shortest stories to a row that has the text, or None if there is none."""
    wish = WISHES[where]
    answer, _ = wish(row, text)
    if answer == "never":
        return None
    looked = [([], row)]
    for at in range(limit):
        story, late = looked[at]
        if is_fulfilled(late, text, where):
            return story
        if len(looked) < limit:
            looked.extend([(story + [place], made(late, place)) for place in range(len(late))])
    raise TooMany(limit)


def together(row, beginning, insides, end):
    """Return a story to a row that has everything, or the index of the first text that no row can have."""
    last = len(row) - 1
    if max([len(text) for text in [beginning, *insides, end]]) > last:
        raise TooShort()
    # The row is its own base row for each of these texts.
    first = part_calls(row, part_ways(beginning)).get(beginning)
    ways = [inside_way(row, text, head_lengths(row, text), tail_lengths(row, text)) for text in insides]
    final = part_calls(row[::-1], part_ways(end[::-1])).get(end[::-1])
    found = [first, *ways, final]
    if None in found:
        return "never", found.index(None)
    growing = Growing(last)
    for way in ways:
        growing.take_in(way)
    for place in first:
        growing.call(place)
    for place in final:
        growing.call(growing.last - place)
    return "story", growing.calls
