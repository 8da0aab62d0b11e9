"""Things of all the kinds that may be handed in where a refusal is told."""

from weirwatch.errors import NoGate
from weirwatch.gates import FlapGate, PartGate, StepGate, StuckGate

FAR = 10 ** 99


def package_objects():
    step = StepGate([0, 2])
    return [step, FlapGate([3]), PartGate([1, 2]), StuckGate(step, 1), NoGate(4)]


def no_numbers():
    """Things that are no whole numbers at all."""
    return [
        True, False, None, "", "0", "1", "one", " ", "1 ", "x" * 100,
        [], [0], [1, 2], [[]], (), (0,), (1, (2, 3)), {}, {0: 1}, {"a": [None]},
    ] + package_objects()


def no_texts():
    """Things that are no texts at all."""
    return [
        True, False, None, 0, 1, -1, 12, FAR, -FAR,
        [], ["a"], [["a"]], (), ("a",), {}, {"a": "b"},
    ] + package_objects()
