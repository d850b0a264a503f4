"""The errors of the package, each a direct subclass of CutError."""


class CutError(ValueError):
    """What every error of the package is."""


class NotComposition(CutError):
    """A value is no composition; place is -1 for a value that is no tuple."""

    def __init__(self, place):
        super().__init__(f"no composition, as place {place} tells")
        self.place = place


class NotSum(CutError):
    """A value breaks a rule for sums over compositions."""

    def __init__(self, rule, place):
        super().__init__(f"no sum: the rule {rule} is broken at {place}")
        self.rule = rule
        self.place = place


class NotText(CutError):
    """A string is no text of a sum; its first place signs begin such a text."""

    def __init__(self, place):
        super().__init__(f"no text of a sum from place {place} on")
        self.place = place


class TooMany(CutError):
    """What is asked for goes above a limit."""

    def __init__(self, limit):
        super().__init__(f"more than {limit}")
        self.limit = limit


class NotShort(CutError):
    """There is no short rule."""


class NotFit(CutError):
    """Things do not fit one another."""


class NotOrder(CutError):
    """A value breaks a rule for orders."""

    def __init__(self, rule):
        super().__init__(f"no order: the rule {rule} is broken")
        self.rule = rule


class NotWeb(CutError):
    """A value is no web."""


class NotTree(CutError):
    """A value is no tree."""
