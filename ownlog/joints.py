"""Joints: the places of a row whose calls all make the same row."""


def joint_step(row):
    """Return the least distance that divides the last place and at which all letters are equal, or None."""
    # At the last place as a distance only the ends stand, so there is a step if they are equal.
    if row[0] != row[-1]:
        return None
    last = len(row) - 1
    step = 1
    while last % step != 0 or row[step:] != row[:-step]:
        step += 1
    return step


def joints(row):
    """Return the joints of the row, in ascending order."""
    step = joint_step(row)
    if step is None:
        return []
    return list(range(0, len(row), step))


def classes(row):
    """Return the classes of places whose calls make the same row, in ascending order."""
    step = joint_step(row)
    if step is None:
        return [[place] for place in range(len(row))]
    # The place 0 is a joint, so the class of the joints is the first one.
    return [joints(row)] + [[place] for place in range(len(row)) if place % step != 0]
