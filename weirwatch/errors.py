"""The refusals: each has as fields the values that it was made of."""


class WeirError(ValueError):
    """Any refusal."""


class NoName(WeirError):
    """The thing is no name."""

    def __init__(self, thing):
        self.thing = thing


class NoGate(WeirError):
    """The thing is no gate, no marks of one, or no setting of one."""

    def __init__(self, thing):
        self.thing = thing


class NoBasin(WeirError):
    """The thing is no number that a basin can have there."""

    def __init__(self, thing):
        self.thing = thing


class NoTown(WeirError):
    """The thing is no want of a town."""

    def __init__(self, thing):
        self.thing = thing


class NoCloud(WeirError):
    """The thing is no number that a cloud can have there."""

    def __init__(self, thing):
        self.thing = thing


class NoRiver(WeirError):
    """The thing is no row of basins, or of towns, of a river."""

    def __init__(self, thing):
        self.thing = thing


class NoText(WeirError):
    """The text of a river is wrong at this line and place, both counted from 0."""

    def __init__(self, line, place):
        self.line = line
        self.place = place


class TooMany(WeirError):
    """The river weighs so much that no tables are made of it."""

    def __init__(self, count):
        self.count = count


class NoStanding(WeirError):
    """The thing is no standing of the river."""

    def __init__(self, thing):
        self.thing = thing


class NoChoice(WeirError):
    """The thing is no choice that can be made there."""

    def __init__(self, thing):
        self.thing = thing


class NoRain(WeirError):
    """The thing is no rain at the standing."""

    def __init__(self, thing):
        self.thing = thing


class NoStuck(WeirError):
    """The thing tells no gates that stick, or none that can stick or be mended."""

    def __init__(self, thing):
        self.thing = thing


class NoNumber(WeirError):
    """The thing is no whole number within the bounds that hold there."""

    def __init__(self, thing):
        self.thing = thing


class Lost(WeirError):
    """The standing is lost, and a basin can be broken within so many turns."""

    def __init__(self, turns):
        self.turns = turns


class NotServed(WeirError):
    """The standing is held but not served, and this is its pair."""

    def __init__(self, found):
        self.found = found


class NoPromise(WeirError):
    """The basin of this number can't be held by the promises."""

    def __init__(self, basin):
        self.basin = basin


class Broken(WeirError):
    """The basins of these numbers are broken, so there are no more turns."""

    def __init__(self, basins):
        self.basins = basins


class NoLine(WeirError):
    """The line can't be understood from the word at this place on."""

    def __init__(self, place):
        self.place = place
