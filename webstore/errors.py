"""What the program refuses, one class for each refusal.

Classes with fields are made with the values of these, and Python keeps them as the error's words.
"""


class WebError(ValueError):
    """Any refusal."""


class NoPlace(WebError):
    """A number is none of a place."""


class NoTie(WebError):
    """A number is none of a tie."""


class Tied(WebError):
    """A place can't be taken while a tie begins or ends there."""


class NoWalk(WebError):
    """No walk of the way leads there."""


class TooMany(WebError):
    """There is more to tell than is told."""


class NoColumn(WebError):
    """A name is none of the table's columns, or a new one's is."""


class NoPlan(WebError):
    """A thing is no plan for the pattern."""


class Taken(WebError):
    """A name is borne already."""


class Endless(WebError):
    """There is no end of walks: the loop is (head, ring, tail)."""

    def __init__(self, loop):
        self.loop = loop


class NoEnd(WebError):
    """A row that lays a pattern has a count without end."""

    def __init__(self, row):
        self.row = row


class Broken(WebError):
    """A rule, told by its name, doesn't hold, and what breaks it."""

    def __init__(self, rule, breach):
        self.rule = rule
        self.breach = breach


class BadDeed(WebError):
    """A deed of a dealing was refused: its place in the list, and the refusal's class name."""

    def __init__(self, deed, word):
        self.deed = deed
        self.word = word


class BadRow(WebError):
    """A row of a sheet can't stand there."""

    def __init__(self, row):
        self.row = row
