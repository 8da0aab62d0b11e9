"""What the tests share: things of all the kinds that may be handed in, some rivers, and how refusals are looked at."""

import itertools
import unittest

from weirwatch.errors import NoGate
from weirwatch.gates import FlapGate, PartGate, StepGate, StuckGate
from weirwatch.rivers import Basin, River, Town
from weirwatch.runs import keeper_of, run, sky_of
from weirwatch.turns import turned

FAR = 10 ** 99


class Refusing(unittest.TestCase):
    def refused(self, error, thing, act):
        with self.subTest(thing=thing), self.assertRaises(error) as caught:
            act()
        self.assertIs(caught.exception.__class__, error)
        self.assertIs(caught.exception.thing, thing)


def package_objects():
    step = StepGate([0, 2])
    river = mill_river()
    keeper = keeper_of([((0, 0), None)])
    return [
        step, FlapGate([3]), PartGate([1, 2]), StuckGate(step, 1), NoGate(4), river, river.basins[0], river.towns[0],
        turned(river, ((2, 2), 2), ((0, 0), None), (1, 0)),
        run(river, ((2, 2), 2), keeper, sky_of(river, []), 1),
    ]


def no_numbers():
    """Things that are no whole numbers at all."""
    return [
        True, False, None, "", "0", "1", "one", " ", "1 ", "x" * 100,
        [], [0], [1, 2], [[]], (), (0,), (1, (2, 3)), {}, {0: 1}, {"a": [None]},
    ] + package_objects()


def no_texts():
    """Things that are no texts at all."""
    return [
        True, False, None, 0, 1, -1, 12, FAR, -FAR,
        [], ["a"], [["a"]], (), ("a",), {}, {"a": "b"},
    ] + package_objects()


def any_things():
    """Things of all kinds, none of which is made by hand for a river."""
    return no_numbers() + no_texts() + [
        2, 13, "a", "upper", "cloud 2 1", (None, None), ((), 0), ((), None), [[2, 2], 2], {0: (2, 2), 1: 2},
    ]


def names(many):
    return ["".join(letters) for letters in itertools.islice(itertools.product("abc", repeat=3), many)]


def mill_river():
    """The river that the document shows."""
    upper = Basin("upper", 0, 4, 2, 1, StepGate([0, 2]))
    lower = Basin("lower", 1, 4, 2, 1, FlapGate([2, 3]))
    return River(2, 1, [upper, lower], [Town("mill", "lower", 1)])


def some_rivers():
    """Small rivers of many sorts: gates that stick, dry clouds, towns that draw from one basin or want too much."""
    step, flap, part = StepGate([0, 1, 3]), FlapGate([1, 2]), PartGate([1, 2, 3, 4])
    return [
        mill_river(),
        River(0, 0, [Basin("a", 0, 3, 1, 2, step)], []),
        River(3, 3, [Basin("a", 2, 5, 3, 0, part)], [Town("a", "a", 6), Town("b", "a", 1), Town("c", "a", 2)]),
        River(4, 3, [Basin("a", 0, 2, 1, 2, flap), Basin("b", 1, 3, 1, 1, part)], (Town("z", "a", 2),)),
        River(5, 2, (Basin("a", 1, 2, 1, 6, StuckGate(part, 1)), Basin("b", 0, 2, 0, 0, step)), [Town("b", "b", 1)]),
        River(2, 2, [Basin("a", 0, 1, 1, 1, flap), Basin("b", 0, 1, 0, 0, step), Basin("c", 0, 2, 2, 2, part)],
              [Town("x", "c", 2), Town("y", "a", 1)]),
    ]


def rows_around(bounds):
    """All rows of numbers from one below each low to one above each high."""
    return itertools.product(*[range(low - 1, high + 2) for low, high in bounds])


def rows_within(bounds):
    return list(itertools.product(*[range(low, high + 1) for low, high in bounds]))


def all_standings(river):
    rows = rows_within([(basin.low, basin.high) for basin in river.basins])
    return [(row, wet) for row in rows for wet in range(river.cloud + 1)]


def all_choices(river):
    rows = rows_within([(0, basin.gate.settings() - 1) for basin in river.basins])
    return [(row, town) for row in rows for town in [None] + list(range(len(river.towns)))]


def least_rain(river, wet):
    """The forced rain, told as the document does."""
    beyond = wet + river.gain - river.cloud
    may_fall = sum(basin.rain for basin in river.basins)
    return 0 if beyond < 0 else beyond if beyond < may_fall else may_fall


def all_rains(river, wet):
    rows = rows_within([(0, basin.rain) for basin in river.basins])
    return [row for row in rows if least_rain(river, wet) <= sum(row) <= wet]
