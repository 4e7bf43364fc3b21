"""The errors of the package.

The messages do not show the values: Python refuses to write out very large
integers, and a value may be any integer.
"""


class NoClimber(LookupError):
    """No climber of the BOOK has this number."""

    def __init__(self, climber):
        LookupError.__init__(self, "there is no such climber")
        self.climber = climber


class NoNumber(LookupError):
    """Nothing has this number."""

    def __init__(self, number):
        LookupError.__init__(self, "nothing has this number")
        self.number = number


class NoDeed(LookupError):
    """There are not so many deeds."""

    def __init__(self, many):
        LookupError.__init__(self, "there are not so many deeds")
        self.many = many


class OtherRound(ValueError):
    """Two STATEs are in different rounds; this climber's sign tells them apart."""

    def __init__(self, climber):
        ValueError.__init__(self, "the states are in different rounds")
        self.climber = climber


class BadTable(ValueError):
    """The table of this climber has the wrong number of items."""

    def __init__(self, climber):
        ValueError.__init__(self, "the table has the wrong number of items")
        self.climber = climber


class NotStanding(ValueError):
    """The climbers cannot stand like this."""

    def __init__(self):
        ValueError.__init__(self, "this is no standing of the book")


class BadDeed(ValueError):
    """The item at this index is not a deed."""

    def __init__(self, at):
        ValueError.__init__(self, "this item is not a deed")
        self.at = at


class BadText(ValueError):
    """Nothing is written like this text."""

    def __init__(self, text):
        ValueError.__init__(self, "nothing is written like this text")
        self.text = text


class BadLine(ValueError):
    """The line at this index has none of the known forms."""

    def __init__(self, at):
        ValueError.__init__(self, "this line has none of the known forms")
        self.at = at


class Last(RuntimeError):
    """The only climber cannot leave."""

    def __init__(self):
        RuntimeError.__init__(self, "the only climber cannot leave")


class TooMany(OverflowError):
    """There are so many that they are not gone through."""

    def __init__(self, many):
        OverflowError.__init__(self, "there are too many to go through")
        self.many = many


class Full(OverflowError):
    """No climber can come to so many."""

    def __init__(self, many):
        OverflowError.__init__(self, "there is no place for another climber")
        self.many = many
