"""The errors by which Roundfence refuses."""


class FenceError(ValueError):
    """Any refusal."""


class NoRound(FenceError):
    """A round without letters: what is its number, 1 or 2."""

    def __init__(self, what):
        self.what = what


class NoRow(FenceError):
    """A row that no rule has: what is its number in the list, from 0."""

    def __init__(self, what):
        self.what = what


class NoPlace(FenceError):
    """A place that no Board has: what is (i, j), None for what was not asked."""

    def __init__(self, what):
        self.what = what


class NoLast(FenceError):
    """A word for who stepped last that is neither first nor second: what is it."""

    def __init__(self, what):
        self.what = what


class NoTicks(FenceError):
    """A number of ticks or rounds below 0: what is it."""

    def __init__(self, what):
        self.what = what


class NoTimes(FenceError):
    """A saying over that is less than once: what is both numbers, (s, t)."""

    def __init__(self, what):
        self.what = what


class NoText(FenceError):
    """A text that writes nothing: what is it."""

    def __init__(self, what):
        self.what = what
