"""What the tests share: things of all the kinds that may be handed in, some rivers, and how refusals are looked at."""

import functools
import itertools
import unittest

from weirwatch.days import Days
from weirwatch.desk import Desk
from weirwatch.errors import NoGate
from weirwatch.gates import FlapGate, PartGate, StepGate, StuckGate
from weirwatch.guard import Guard
from weirwatch.holding import Holding
from weirwatch.rivers import Basin, River, Town
from weirwatch.rivertext import read_river
from weirwatch.runs import keeper_of, run, sky_of
from weirwatch.serving import Serving, TurnKeeper
from weirwatch.turns import turned

FAR = 10 ** 99


class Refusing(unittest.TestCase):
    def refused(self, error, thing, act):
        with self.subTest(thing=thing), self.assertRaises(error) as caught:
            act()
        self.assertIs(caught.exception.__class__, error)
        self.assertIs(caught.exception.thing, thing)


def package_objects():
    return list(made_objects())


@functools.cache
def made_objects():
    step = StepGate([0, 2])
    river = mill_river()
    keeper = keeper_of([((0, 0), None)])
    holding = Holding(river)
    serving = Serving(holding)
    return (
        step, FlapGate([3]), PartGate([1, 2]), StuckGate(step, 1), NoGate(4), river, river.basins[0], river.towns[0],
        turned(river, ((2, 2), 2), ((0, 0), None), (1, 0)),
        run(river, ((2, 2), 2), keeper, sky_of(river, []), 1),
        holding.standings, holding, serving, TurnKeeper(serving), Guard(holding), Days(river), Desk(),
    )


def no_numbers():
    """Things that are no whole numbers at all."""
    return [
        True, False, None, "", "0", "1", "one", " ", "1 ", "x" * 100,
        [], [0], [1, 2], [[]], (), (0,), (1, (2, 3)), {}, {0: 1}, {"a": [None]},
        *package_objects(),
    ]


def no_texts():
    """Things that are no texts at all."""
    return [
        True, False, None, 0, 1, -1, 12, FAR, -FAR,
        [], ["a"], [["a"]], (), ("a",), {}, {"a": "b"},
        *package_objects(),
    ]


def any_things():
    """Things of all kinds, none of which is made by hand for a river."""
    return no_numbers() + no_texts() + [
        2, 13, "a", "upper", "cloud 2 1", (None, None), ((), 0), ((), None), [[2, 2], 2], {0: (2, 2), 1: 2},
    ]


def names(many):
    return ["".join(letters) for letters in itertools.islice(itertools.product("abc", repeat=3), many)]


def mill_river():
    """The river that the document shows."""
    upper = Basin("upper", 0, 4, 2, 1, StepGate([0, 2]))
    lower = Basin("lower", 1, 4, 2, 1, FlapGate([2, 3]))
    return River(2, 1, [upper, lower], [Town("mill", "lower", 1)])


def wide_river():
    """Sixteen basins and a full cloud."""
    basins = [Basin(name, 0, 12, 6, 6, StepGate([0, 1, 2, 12])) for name in names(16)]
    return River(12, 12, basins, [Town("a", names(16)[15], 6)])


def dry_river(levels, cloud, settings):
    """Basins with so many levels and settings each, on which no rain falls."""
    marks = (0, 1, 2, 3)
    basins = [Basin(name, 0, many - 1, 0, 0, StepGate(marks[:gate]))
              for name, many, gate in zip(names(16), levels, settings)]
    return River(cloud, 0, basins, [])


def some_rivers():
    """Small rivers of many sorts: gates that stick, dry clouds, towns that draw from one basin or want too much."""
    step, flap, part = StepGate([0, 1, 3]), FlapGate([1, 2]), PartGate([1, 2, 3, 4])
    return [
        mill_river(),
        River(0, 0, [Basin("a", 0, 3, 1, 2, step)], []),
        River(3, 3, [Basin("a", 2, 5, 3, 0, part)], [Town("a", "a", 6), Town("b", "a", 1), Town("c", "a", 2)]),
        River(4, 3, [Basin("a", 0, 2, 1, 2, flap), Basin("b", 1, 3, 1, 1, part)], (Town("z", "a", 2),)),
        River(5, 2, (Basin("a", 1, 2, 1, 6, StuckGate(part, 1)), Basin("b", 0, 2, 0, 0, step)), [Town("b", "b", 1)]),
        River(2, 2, [Basin("a", 0, 1, 1, 1, flap), Basin("b", 0, 1, 0, 0, step), Basin("c", 0, 2, 2, 2, part)],
              [Town("x", "c", 2), Town("y", "a", 1)]),
    ]


def light_rivers():
    """Those of some rivers that weigh no more than a table can be made of."""
    rivers = some_rivers()
    return rivers[:3] + rivers[4:5]


@functools.cache
def watched_rivers():
    """Small rivers of which some standings are held and some lost, some served and some not, in many ways."""
    texts = (
        "cloud 3 1\nbasin a 1 7 1 1 step 1 2 3 4\ntown x a 1",
        "cloud 4 1\nbasin a 1 5 2 1 step 1\ntown x a 1\ntown y a 1",
        "cloud 1 0\nbasin a 0 4 4 0 part 3 6\nbasin b 1 4 3 0 part 1 3 4\ntown x b 1\ntown y a 1",
        "cloud 2 1\nbasin a 2 4 2 1 flap 7\ntown x a 3\ntown y a 3",
        "cloud 3 2\nbasin a 2 7 4 2 flap 0 7 8\ntown x a 1",
        "cloud 2 1\nbasin a 0 1 0 1 step 0 1 2 5\nbasin b 0 3 2 0 step 0 7\ntown x a 1\ntown y b 3",
        "cloud 3 1\nbasin a 0 3 0 1 part 12\ntown x a 3\ntown y a 1\ntown z a 2",
        "cloud 1 1\nbasin a 1 6 6 1 step 0 4 5 7\nbasin b 2 4 3 0 flap 4\ntown x b 1",
        "cloud 2 1\nbasin a 1 3 1 1 step 0 1\nbasin b 0 2 1 0 flap 0 2",
        "cloud 3 2\nbasin a 1 4 4 1 part 1 2 4\ntown x a 4",
        "cloud 4 2\nbasin a 2 5 3 1 flap 0 2 3\ntown x a 3",
        "cloud 4 3\nbasin a 0 2 1 2 flap 1 2\nbasin b 1 3 1 1 part 1 2\ntown z a 2",
        "cloud 2 2\nbasin a 0 1 1 1 flap 1 2\nbasin b 0 1 0 0 step 0 1\nbasin c 0 1 1 1 part 1 2\ntown x c 1\ntown y a 1",
    )
    return tuple(light_rivers() + [read_river(text) for text in texts])


def rows_around(bounds):
    """All rows of numbers from one below each low to one above each high."""
    return itertools.product(*[range(low - 1, high + 2) for low, high in bounds])


def rows_within(bounds):
    return list(itertools.product(*[range(low, high + 1) for low, high in bounds]))


def all_standings(river):
    rows = rows_within([(basin.low, basin.high) for basin in river.basins])
    return [(row, wet) for row in rows for wet in range(river.cloud + 1)]


def all_choices(river):
    rows = rows_within([(0, basin.gate.settings() - 1) for basin in river.basins])
    return [(row, town) for row in rows for town in [None] + list(range(len(river.towns)))]


def least_rain(river, wet):
    """The forced rain, told as the document does."""
    beyond = wet + river.gain - river.cloud
    may_fall = sum(basin.rain for basin in river.basins)
    return 0 if beyond < 0 else beyond if beyond < may_fall else may_fall


def all_rains(river, wet):
    rows = rows_within([(0, basin.rain) for basin in river.basins])
    return [row for row in rows if least_rain(river, wet) <= sum(row) <= wet]


@functools.cache
def ends_in(river):
    """By standing and choice, a row of each rain there, rising, and the standing that comes, None where one breaks."""
    ends = {}
    for standing, choice in itertools.product(all_standings(river), all_choices(river)):
        turns = [turned(river, standing, choice, rain) for rain in sorted(all_rains(river, standing[1]))]
        ends[standing, choice] = [(turn.rain, None if turn.broken else turn.standing()) for turn in turns]
    return ends


def let_choices(river, stuck):
    """The choices that the stuck gates let be, in the told order."""
    let = [choice for choice in all_choices(river) if all(choice[0][p] == s for p, s in (stuck or {}).items())]
    return sorted(let, key=lambda choice: (choice[0], -1 if choice[1] is None else choice[1]))


def stuck_ways(river):
    """None, the dict without keys, each gate stuck by itself at each setting, and all gates stuck."""
    many = [basin.gate.settings() for basin in river.basins]
    ones = [{place: setting} for place, settings in enumerate(many) for setting in range(settings)]
    highest = {place: settings - 1 for place, settings in reversed(list(enumerate(many)))}
    return [None, {}] + ones + [highest, dict.fromkeys(range(len(many)), 0)]


def watched_ways():
    """Each watched river with each way of stuck gates."""
    return [(river, stuck) for river in watched_rivers() for stuck in stuck_ways(river)]


def lost_within(river, stuck, known):
    """The standings of which the sky can break a basin within one turn more than those that are known."""
    choices = let_choices(river, stuck)
    return {
        standing for standing in all_standings(river)
        if all(any(end is None or end in known for rain, end in ends_in(river)[standing, choice]) for choice in choices)
    }


def lost_numbers(river, stuck):
    """All lost standings with their numbers, looked for turn by turn until nothing more comes."""
    numbers, known = {}, set()
    for turns in itertools.count(1):
        more = lost_within(river, stuck, known)
        if more == known:
            return numbers
        for standing in more - known:
            numbers[standing] = turns
        known = more


def some_skies(river):
    """Skies that rain little, much, or now here and now there."""
    def mixed(standing, choice, k):
        rains = sorted(all_rains(river, standing[1]))
        return rains[(k * k + sum(standing[0])) % len(rains)]
    return [sky_of(river, []), sky_of(river, [(6,) * len(river.basins)] * 200), mixed]


def wrong_pairs(pair):
    """Things that are nearly the tuple of two, but not so."""
    first, second = pair
    return [
        [first, second], (first,), (first, second, 0), (first, second, None), (), first, second, {0: first, 1: second},
        (list(first), second), (first + (0,), second), (first[:-1], second), ((), second), (second, first),
        (first[0], second), (None, second), (dict(enumerate(first)), second), ((first,), second),
    ]


def none_of(things, right):
    """Those that are none of the right ones: told by how they are shown, as 1 and True are equal."""
    shown = {repr(thing) for thing in right}
    return [thing for thing in things if repr(thing) not in shown]


def rows_with(row, thing):
    return [row[:place] + (thing,) + row[place + 1:] for place in range(len(row))]


def no_standings(river, standing):
    levels, wet = standing
    wrong = wrong_pairs(standing) + [(levels, -1), (levels, river.cloud + 1), (levels, FAR), (levels, None)]
    for thing in no_numbers() + [-1, 13, FAR, -FAR]:
        wrong += [(row, wet) for row in rows_with(levels, thing)] + [(thing, wet), thing]
    return none_of(wrong + [(levels, thing) for thing in no_numbers()] + any_things(), all_standings(river))


def no_choices(river, choice):
    settings, town = choice
    wrong = wrong_pairs(choice) + [(settings, -1), (settings, len(river.towns)), (settings, FAR), (settings, "mill")]
    for thing in no_numbers() + [-1, 4, FAR, -FAR]:
        wrong += [(row, town) for row in rows_with(settings, thing)] + [(thing, town), thing]
    return none_of(wrong + [(settings, thing) for thing in no_numbers()] + any_things(), all_choices(river))


def no_rains(river, wet, rain):
    wrong = [list(rain), rain + (0,), rain[:-1], (), (rain,), dict(enumerate(rain)), sum(rain), (rain, 0)]
    for thing in no_numbers() + [-1, 7, FAR, -FAR]:
        wrong += rows_with(rain, thing) + [thing]
    return none_of(wrong + any_things(), all_rains(river, wet))


def no_stuck(river):
    """Things that tell no gates that stick."""
    last = len(river.basins) - 1
    many = river.basins[last].gate.settings()
    wrong = [thing for thing in any_things() if thing is not None and thing != {}]
    wrong = [thing for thing in wrong if repr(thing) not in [repr(way) for way in stuck_ways(river)]]
    for key in no_numbers() + [-1, last + 1, FAR, -FAR, str(last)]:
        if not isinstance(key, (list, dict)) and key != (1, (2, 3)):
            # True is equal to 1, so that a dict can't have both.
            wrong += [{key: 0}] + [{last: 0, key: 0}] * (key != last)
    for setting in no_numbers() + [-1, many, FAR, -FAR]:
        wrong += [{last: setting}, {last: setting, 0: -1}]
    return wrong + [[(last, 0)], ((last, 0),), [last], (last,), last + 1, "0", [{}], ({},), {last: {0: 0}}]
