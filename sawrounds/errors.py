"""The errors of the package.

The messages are fixed words: a value that is refused may be of any kind, so
writing it out could itself fail. The attributes tell what was refused.
"""


class SawError(ValueError):
    """What stands above all errors of the package."""


class BadSetting(SawError):
    """No SETTING; place is () for the whole or the number of the thing."""

    def __init__(self, place):
        super().__init__("this is no setting")
        self.place = place


class BadRounds(SawError):
    """No ROUNDS; place is () for the whole or the number of the thing."""

    def __init__(self, place):
        super().__init__("these are no rounds")
        self.place = place


class BadSenders(SawError):
    """No SENDERS; place is () for the whole or the number of the thing."""

    def __init__(self, place):
        super().__init__("these are no senders")
        self.place = place


class BadText(SawError):
    """No text of the form; line and word are the place, both from 0."""

    def __init__(self, line, word):
        super().__init__("this text cannot be read")
        self.line = line
        self.word = word


class BadDeed(SawError):
    """No state or no deed; place is () for the whole or the way to the thing."""

    def __init__(self, place):
        super().__init__("this is no state or no deed")
        self.place = place


class BadParameter(SawError):
    """A parameter that is not of its kind; value is what was handed in."""

    def __init__(self, value):
        super().__init__("a parameter is not of its kind")
        self.value = value


class NoHeight(SawError):
    """No HEIGHT has these rounds; paper shows two stretches that forbid it."""

    def __init__(self, paper):
        super().__init__("no height has these rounds")
        self.paper = paper


class NoRow(SawError):
    """There is nothing that could be taken back."""

    def __init__(self):
        super().__init__("there is nothing to take back")


class NoMean(SawError):
    """Nothing has the mean that is wanted."""

    def __init__(self):
        super().__init__("nothing has this mean")


class TooGreat(SawError):
    """A told number is greater than most."""

    def __init__(self, most):
        super().__init__("a number is greater than told")
        self.most = most
