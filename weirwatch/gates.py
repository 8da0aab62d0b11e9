"""Gates: what they let through by a setting, at a level."""

from weirwatch.errors import NoGate, NoNumber
from weirwatch.words import is_whole

MOST_SETTINGS = 4
HIGHEST_MARK = 12
HIGHEST_LEVEL = 1000


def are_marks(thing, lowest):
    if not isinstance(thing, (list, tuple)):
        return False
    if not 1 <= len(thing) <= MOST_SETTINGS:
        return False
    least = lowest
    for mark in thing:
        if not is_whole(mark, least, HIGHEST_MARK):
            return False
        least = mark + 1
    return True


def kept_marks(marks, lowest):
    """The marks as a tuple, so that nothing done to a list later changes the gate."""
    if not are_marks(marks, lowest):
        raise NoGate(marks)
    return tuple(marks)


def words_of(name, marks):
    return " ".join([name] + [str(mark) for mark in marks])


class Gate:
    """What all gates are: each sort has settings, passes and words of its own."""

    def lets(self, setting, level):
        """How many cubes go through by this setting at this level."""
        if not is_whole(setting, 0, self.settings() - 1):
            raise NoGate(setting)
        if not is_whole(level, 0, HIGHEST_LEVEL):
            raise NoNumber(level)
        return self.passes(setting, level)


class StepGate(Gate):
    """Lets as many cubes as the mark says, or all where there are fewer."""

    def __init__(self, marks):
        self.marks = kept_marks(marks, 0)

    def settings(self):
        return len(self.marks)

    def passes(self, setting, level):
        return min(self.marks[setting], level)

    def words(self):
        return words_of("step", self.marks)


class FlapGate(Gate):
    """Lets all that stands above the mark."""

    def __init__(self, marks):
        self.marks = kept_marks(marks, 0)

    def settings(self):
        return len(self.marks)

    def passes(self, setting, level):
        return max(level - self.marks[setting], 0)

    def words(self):
        return words_of("flap", self.marks)


class PartGate(Gate):
    """Lets the level divided by the mark, the rest left out."""

    def __init__(self, marks):
        self.marks = kept_marks(marks, 1)

    def settings(self):
        return len(self.marks)

    def passes(self, setting, level):
        return level // self.marks[setting]

    def words(self):
        return words_of("part", self.marks)


class StuckGate(Gate):
    """Has the one setting 0, by which it lets what the gate lets by the told one."""

    def __init__(self, gate, setting):
        if not isinstance(gate, Gate):
            raise NoGate(gate)
        if not is_whole(setting, 0, gate.settings() - 1):
            raise NoGate(setting)
        self.gate = gate
        self.setting = setting

    def settings(self):
        return 1

    def passes(self, setting, level):
        # A walk, not a call within a call: gates may be stuck many times over.
        inner = self
        while isinstance(inner.gate, StuckGate):
            inner = inner.gate
        return inner.gate.passes(inner.setting, level)

    def words(self):
        return "stuck"
