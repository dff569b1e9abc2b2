"""Checks of the tables that show that a text can never begin, end, or stand in a row made from a row.

What is said of the end of a row, and of tails, is what is said of its beginning, and of heads, read backward.
"""

from ownlog.kinds import is_integer, is_text
from ownlog.wishes import base_rows, part_ways


def is_line(story, width, thing):
    """Return whether thing is a tuple of so many lists, the first of them this story."""
    if not isinstance(thing, tuple) or len(thing) != width:
        return False
    if not all([isinstance(own, list) for own in thing]):
        return False
    # Integers are asked for first, as True is equal to 1.
    return all([is_integer(place) for place in thing[0]]) and thing[0] == story


def are_lines(bases, width, thing):
    """Return whether thing is a list of lines, one for each base story, in order."""
    if not isinstance(thing, list) or len(thing) != len(bases):
        return False
    return all([is_line(story, width, line) for (story, _), line in zip(bases, thing)])


def is_ascending(things):
    """Return whether a list of texts, or of integers, is ascending, and all of them are different."""
    return all([one < other for one, other in zip(things, things[1:])])


def are_parts(text, things):
    """Return whether a list contains different parts of the text, without the text itself, in ascending order."""
    if not all([is_text(part, len(text)) for part in things]):
        return False
    return is_ascending(things) and all([part in text and part != text for part in things])


def has_needed_parts(base, ways, parts):
    """Return whether the parts are all that can begin for a base row, as far as they tell themselves."""
    for part, own in ways:
        longer_ones = [longer for _, longer in own if longer in parts]
        if part not in parts and (longer_ones or base.startswith(part)):
            return False
    return True


def are_part_lines(row, text, step, thing):
    """Return whether thing is a list of lines with all needed parts, read forward (step 1) or backward (step -1)."""
    bases = base_rows(row, len(text))
    if not are_lines(bases, 2, thing):
        return False
    ways = part_ways(text[::step])
    # The text itself is no part in a line, so a line in which it is needed shows nothing.
    return all([are_parts(text, parts) and has_needed_parts(base[::step], ways, [part[::step] for part in parts])
                for (_, base), (_, parts) in zip(bases, thing)])


def shows_no_beginning(row, text, thing):
    """Return whether thing shows that no row made from the row begins with the text."""
    return are_part_lines(row, text, 1, thing)


def shows_no_end(row, text, thing):
    """Return whether thing shows that no row made from the row ends with the text."""
    return are_part_lines(row, text, -1, thing)


def are_numbers(most, things):
    """Return whether a list contains different integers from 0 to most, in ascending order."""
    if not all([is_integer(number) and 0 <= number <= most for number in things]):
        return False
    return is_ascending(things)


def has_needed_heads(base, text, heads):
    """Return whether the heads are all heads of the text, as far as they tell themselves."""
    needed = [stop for start in heads for stop in range(start + 1, len(text) + 1)
              if base.endswith(text[start:stop])]
    return all([head in heads for head in [0] + needed])


def shows_no_piece(base, text, heads, tails):
    """Return whether a line with these heads and tails shows that the text stands in no row made from a base row."""
    many = len(text)
    if not are_numbers(many, heads) or not are_numbers(many, tails):
        return False
    backward = [many - tail for tail in tails]
    if not has_needed_heads(base, text, heads) or not has_needed_heads(base[::-1], text[::-1], backward):
        return False
    return not any([text[start:stop] in base for start in heads for stop in tails if start < stop])


def shows_no_place(row, text, thing):
    """Return whether thing shows that the text stands in no row made from the row."""
    bases = base_rows(row, len(text))
    if not are_lines(bases, 3, thing):
        return False
    return all([shows_no_piece(base, text, heads, tails) for (_, base), (_, heads, tails) in zip(bases, thing)])
