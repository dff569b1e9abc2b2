"""Which places show one another after a call."""


def shown(last, called, place):
    """Return the place of the old row that a place of the new row shows; last is the old row's last place."""
    if place < called:
        return place
    if place <= called + last:
        return place - called
    return place - last


def showing(last, called, place):
    """Return the places of the new row that show a place of the old row; last is the old row's last place."""
    if place < called:
        return [place, place + called]
    if place == called:
        return [2 * called]
    return [place + called, place + last]
