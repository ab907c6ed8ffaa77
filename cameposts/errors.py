"""The refusals: each of them stands straight under PostError."""


class PostError(ValueError):
    """Any refusal."""


class NoChoice(PostError):
    """What should be True or False is no truth."""


class NoEnd(PostError):
    """It is no end of the town."""


class NoGoers(PostError):
    """It is no list of goers."""


class NoName(PostError):
    """No walker has this name."""


class NoNumber(PostError):
    """It is no number of the wanted kind."""


class NoPair(PostError):
    """The two standings don't belong together."""


class NoPlace(PostError):
    """It is no place of the town."""


class NoWishes(PostError):
    """They are no wishes for the standing."""


# The message of the three below never shows what is wrong: Python makes no
# text of a number of thousands of figures, and wrong may be such a number.


class NoRow(PostError):
    """It is no row of deeds; the field wrong tells why."""

    def __init__(self, wrong):
        super().__init__("this is no row")
        self.wrong = wrong


class NoStanding(PostError):
    """It is no standing of the town; the field wrong tells why."""

    def __init__(self, wrong):
        super().__init__("this is no standing")
        self.wrong = wrong


class NoTown(PostError):
    """It is no town; the field wrong tells why."""

    def __init__(self, wrong):
        super().__init__("this is no town")
        self.wrong = wrong
