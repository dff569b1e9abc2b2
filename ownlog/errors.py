"""The errors of the package: one class for each kind of failure.

The messages name no values, because an error may be made of any value, also of one that cannot be shown.
"""


class OwnError(ValueError):
    """What all errors of the package are."""

    def __init__(self, text):
        ValueError.__init__(self, text)
        self.text = text


class Wrong(OwnError):
    """The argument with this place is not as described."""

    def __init__(self, place):
        OwnError.__init__(self, "an argument is not as described")
        self.place = place


class NoPlace(OwnError):
    """A row or a long row has no such place."""

    def __init__(self, place):
        OwnError.__init__(self, "there is no such place")
        self.place = place


class NoCall(OwnError):
    """The call with this index is not a place of the row made by then."""

    def __init__(self, at):
        OwnError.__init__(self, "a call is not a place of the row made by then")
        self.at = at


class TooLong(OwnError):
    """There would be more letters than this limit."""

    def __init__(self, limit):
        OwnError.__init__(self, "there are too many letters")
        self.limit = limit


class TooMany(OwnError):
    """There would be more things than this limit."""

    def __init__(self, limit):
        OwnError.__init__(self, "there are too many things")
        self.limit = limit


class NoNumber(OwnError):
    """Nothing has this number."""

    def __init__(self, number):
        OwnError.__init__(self, "nothing has this number")
        self.number = number


class NoLetter(OwnError):
    """The letter with this index does not occur in the tally."""

    def __init__(self, at):
        OwnError.__init__(self, "a letter does not occur in the tally")
        self.at = at


class NotCalled(OwnError):
    """No more than so many calls made this tally."""

    def __init__(self, many):
        OwnError.__init__(self, "fewer calls made this tally")
        self.many = many


class NoElder(OwnError):
    """The row has no elder."""

    def __init__(self):
        OwnError.__init__(self, "the row has no elder")


class Several(OwnError):
    """There are so many possible ways back."""

    def __init__(self, many):
        OwnError.__init__(self, "there are several ways back")
        self.many = many


class EqualEnds(OwnError):
    """The first and the last letter are the same."""

    def __init__(self):
        OwnError.__init__(self, "the ends are equal")


class NoTwins(OwnError):
    """The condition of twins with this index does not hold."""

    def __init__(self, at):
        OwnError.__init__(self, "a condition of twins does not hold")
        self.at = at


class TooShort(OwnError):
    """The row is too short for a text."""

    def __init__(self):
        OwnError.__init__(self, "the row is too short")


class NoText(OwnError):
    """The word with this index cannot stand where it stands."""

    def __init__(self, at):
        OwnError.__init__(self, "a word cannot stand where it stands")
        self.at = at


class NoBook(OwnError):
    """There is no Book yet."""

    def __init__(self):
        OwnError.__init__(self, "there is no Book yet")


class NoCommand(OwnError):
    """The line is no command."""

    def __init__(self):
        OwnError.__init__(self, "the line is no command")
