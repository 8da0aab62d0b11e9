"""Points 4 to 6, 9 and 81 to 86: basins held alone, promises between neighbours, and the local keeper."""

import functools
import itertools
import unittest

from things import (
    FAR, Refusing, all_rains, all_standings, any_things, mill_river, names, no_numbers, no_standings, rows_within,
    some_rivers, watched_rivers, wide_river,
)
from weirwatch.errors import NoNumber, NoPromise, NoStanding
from weirwatch.gates import FlapGate, PartGate, StepGate, StuckGate
from weirwatch.promises import are_promises, local_keeper, lone_levels, lone_lost, lone_setting, promises
from weirwatch.rivers import Basin, River, Town
from weirwatch.rivertext import read_river
from weirwatch.runs import run, sky_of
from weirwatch.turns import is_standing, turned


def pond(low, high, rain, gate, start=None):
    return Basin("a", low, high, low if start is None else start, rain, gate)


@functools.cache
def some_ponds():
    """Basins of many sorts: wide and narrow, dry and wet, with gates that let much, little, or what can't be helped."""
    gates = (
        StepGate([0]), StepGate([1]), StepGate([0, 1, 2, 3]), StepGate([1, 3, 4]), StepGate([0, 12]), FlapGate([2]),
        FlapGate([0, 1, 3]), FlapGate([1, 4, 12]), PartGate([1]), PartGate([2, 3]), PartGate([1, 2, 4, 12]),
        StuckGate(StepGate([0, 2]), 1), StuckGate(StuckGate(FlapGate([1, 2]), 0), 0),
    )
    bounds = ((0, 0), (0, 3), (1, 4), (2, 2), (2, 5), (0, 6), (3, 7), (0, 12))
    return tuple(pond(low, high, rain, gate) for (low, high), rain, gate in itertools.product(bounds, (0, 1, 2), gates))


class Alone:
    """What is to be told of a basin alone, found with sets of levels, as the document tells."""

    def __init__(self, basin, up, hi):
        self.basin, self.up, self.hi = basin, up, hi
        self.levels = range(basin.low, basin.high + 1)
        self.settings = range(basin.gate.settings())
        self.numbers, known = {}, set()
        for number in itertools.count(1):
            more = {level for level in self.levels if not self.safe(level, set(self.levels) - known)}
            if more == known:
                break
            for level in more - known:
                self.numbers[level] = number
            known = more
        self.held = [level for level in self.levels if level not in known]

    def may_use(self, level, setting):
        return self.basin.gate.lets(setting, level) <= self.hi

    def led(self, level, setting):
        """By each that may come in, rising, the level that comes."""
        left = level - self.basin.gate.lets(setting, level)
        return [left + more for more in range(self.up + self.basin.rain + 1)]

    def safe(self, level, levels):
        """The settings that may be used and behind which, whatever comes in, one of the levels comes."""
        return [setting for setting in self.settings
                if self.may_use(level, setting) and set(self.led(level, setting)) <= levels]

    def setting(self, level):
        safe = self.safe(level, set(self.held))
        return safe[0] if safe else None

    def is_nearer(self, end, level):
        return end not in self.levels or end in self.numbers and self.numbers[end] < self.numbers[level]

    def bad(self, level, setting):
        if not self.may_use(level, setting):
            return None
        return [self.is_nearer(end, level) for end in self.led(level, setting)].index(True)

    def lost(self):
        return {level: (self.numbers[level], {setting: self.bad(level, setting) for setting in self.settings})
                for level in self.levels if level in self.numbers}


@functools.cache
def alone_ways():
    """Each pond with some numbers, and what is to be told of it."""
    bounds = ((0, 0), (0, 1), (1, 0), (1, 1), (0, 3), (2, 2), (1, 12), (12, 12), (12, 0), (3, 4))
    return tuple(Alone(basin, up, hi) for basin, (up, hi) in itertools.product(some_ponds(), bounds))


class ByHand(Refusing):
    def test_a_gate_that_lets_as_much_as_comes(self):
        basin = pond(0, 3, 1, StepGate([0, 1, 2]))
        self.assertEqual(lone_levels(basin, 0, 1), [0, 1, 2, 3])
        self.assertEqual([lone_setting(basin, 0, 1, level) for level in range(4)], [0, 0, 0, 1])
        self.assertEqual(lone_lost(basin, 0, 1), {})
        self.assertEqual(lone_levels(basin, 1, 2), [0, 1, 2, 3])
        self.assertEqual([lone_setting(basin, 1, 2, level) for level in range(4)], [0, 0, 1, 2])

    def test_a_gate_that_may_let_too_little(self):
        basin = pond(0, 3, 1, StepGate([0, 1, 2]))
        self.assertEqual(lone_levels(basin, 0, 0), [])
        self.assertEqual(lone_lost(basin, 0, 0), {
            # At level 0 each setting lets nothing; at level 1 the last two let a cube, which is too many.
            0: (4, {0: 1, 1: 1, 2: 1}), 1: (3, {0: 1, 1: None, 2: None}),
            2: (2, {0: 1, 1: None, 2: None}), 3: (1, {0: 1, 1: None, 2: None}),
        })
        self.assertIs(lone_setting(basin, 0, 0, 0), None)

    def test_a_flap_that_lets_too_much_at_high_levels(self):
        # No setting may be used where more stands above the mark than may be let.
        basin = pond(0, 5, 1, FlapGate([2]))
        self.assertEqual(lone_levels(basin, 0, 1), [0, 1, 2, 3])
        self.assertEqual(lone_lost(basin, 0, 1), {4: (1, {0: None}), 5: (1, {0: None})})
        self.assertEqual(lone_levels(basin, 0, 2), [0, 1, 2, 3, 4])
        self.assertEqual(lone_levels(basin, 1, 2), [0, 1, 2, 3, 4])
        self.assertEqual(lone_levels(basin, 1, 1), [])

    def test_a_basin_that_runs_dry(self):
        basin = pond(1, 4, 0, StepGate([1]))
        self.assertEqual(lone_levels(basin, 0, 12), [])
        self.assertEqual(lone_lost(basin, 0, 12), {level: (level, {0: 0}) for level in (1, 2, 3, 4)})

    def test_a_basin_of_one_level(self):
        self.assertEqual(lone_levels(pond(2, 2, 0, StepGate([0])), 0, 0), [2])
        self.assertEqual(lone_levels(pond(2, 2, 0, StepGate([0])), 1, 0), [])
        self.assertEqual(lone_lost(pond(2, 2, 0, StepGate([0, 1])), 1, 12), {2: (1, {0: 1, 1: 0})})

    def test_the_cloud_and_towns_play_no_part(self):
        for cloud in (0, 12):
            river = River(cloud, 0, [pond(0, 3, 1, StepGate([0, 1]))], [Town("x", "a", 1)])
            self.assertEqual(promises(river), [1])
            self.assertEqual(local_keeper(river, [1])(((3,), 0), 0), ((1,), None))


class EveryBasin(unittest.TestCase):
    def test_levels(self):
        many = set()
        for alone in alone_ways():
            told = lone_levels(alone.basin, alone.up, alone.hi)
            self.assertEqual((type(told), told), (list, alone.held))
            many.add((len(told) > 0, len(told) < len(alone.levels)))
        self.assertEqual(many, {(False, True), (True, False), (True, True)})

    def test_settings(self):
        found = set()
        for alone in alone_ways():
            for level in alone.levels:
                told = lone_setting(alone.basin, alone.up, alone.hi, level)
                self.assertEqual(told, alone.setting(level))
                self.assertEqual(told is None, level not in alone.held)
                found.add(told)
        self.assertEqual(found, {None, 0, 1, 2, 3})

    def test_lost(self):
        numbers = set()
        for alone in alone_ways():
            told = lone_lost(alone.basin, alone.up, alone.hi)
            self.assertEqual(told, alone.lost())
            self.assertEqual(sorted(list(told) + alone.held), list(alone.levels))
            for row in told.values():
                self.assertEqual([type(row), type(row[0]), type(row[1])], [tuple, int, dict])
                numbers.add(row[0])
        self.assertLessEqual(set(range(1, 11)), numbers)

    def test_the_greatest_set(self):
        # Each set of levels is tried: all that hold by themselves lie within the held ones.
        tried = [alone for alone in alone_ways() if len(alone.levels) <= 5]
        for alone in tried:
            together = set()
            for many in range(len(alone.levels) + 1):
                for levels in map(set, itertools.combinations(alone.levels, many)):
                    if all(alone.safe(level, levels) for level in levels):
                        together |= levels
            self.assertEqual(sorted(together), lone_levels(alone.basin, alone.up, alone.hi))

    def test_more_from_above_and_less_let_hold_no_more(self):
        for basin in some_ponds()[::5]:
            for up, hi in itertools.product(range(4), range(5)):
                held = set(lone_levels(basin, up, hi))
                self.assertLessEqual(set(lone_levels(basin, up + 1, hi)), held)
                self.assertLessEqual(held, set(lone_levels(basin, up, hi + 1)))


class RefusedAlone(Refusing):
    def test_up_ahead_of_all(self):
        basin = pond(1, 4, 1, StepGate([0, 1]))
        for thing in no_numbers() + [-1, 13, FAR, -FAR]:
            for hi in (0, 12, 13, None):
                self.refused(NoNumber, thing, lambda: lone_levels(basin, thing, hi))
                self.refused(NoNumber, thing, lambda: lone_lost(basin, thing, hi))
                self.refused(NoNumber, thing, lambda: lone_setting(basin, thing, hi, 2))
                self.refused(NoNumber, thing, lambda: lone_setting(basin, thing, hi, 9))

    def test_hi_behind_it(self):
        basin = pond(1, 4, 1, StepGate([0, 1]))
        for thing in no_numbers() + [-1, 13, FAR, -FAR]:
            for up in (0, 12):
                self.refused(NoNumber, thing, lambda: lone_levels(basin, up, thing))
                self.refused(NoNumber, thing, lambda: lone_lost(basin, up, thing))
                self.refused(NoNumber, thing, lambda: lone_setting(basin, up, thing, 2))
                self.refused(NoNumber, thing, lambda: lone_setting(basin, up, thing, 9))

    def test_a_level_at_last(self):
        for basin in (pond(1, 4, 1, StepGate([0, 1])), pond(1, 4, 6, StepGate([0]))):
            for thing in no_numbers() + [-1, 0, 5, 12, FAR, -FAR]:
                for up, hi in ((0, 0), (0, 1), (12, 12)):
                    self.refused(NoNumber, thing, lambda: lone_setting(basin, up, hi, thing))
            for level in (1, 4):
                lone_setting(basin, 0, 1, level)


def is_held(basin, up, hi):
    return basin.start in Alone(basin, up, hi).held


def are_right(river, numbers):
    """Whether the numbers are promises, told as the document does."""
    ups = [0] + list(numbers)
    return all(is_held(basin, ups[place], numbers[place]) for place, basin in enumerate(river.basins))


@functools.cache
def promising_rivers():
    """Rivers of one to three basins, some of which have promises and some none."""
    texts = (
        "cloud 3 1\nbasin a 0 3 1 1 step 0 1 2\nbasin b 0 4 2 1 step 0 1 2 3\nbasin c 1 6 3 0 step 0 2 3 4",
        "cloud 3 1\nbasin a 0 3 1 1 step 1 2\nbasin b 0 4 2 1 flap 1 2\nbasin c 0 6 3 1 part 1 2",
        "cloud 2 1\nbasin a 0 3 3 1 step 0 1\nbasin b 0 2 1 1 step 1\ntown x a 1",
        "cloud 2 1\nbasin a 0 2 1 1 flap 1\nbasin b 1 4 2 1 flap 1 2\nbasin c 0 3 0 0 step 0 2",
        "cloud 1 1\nbasin a 0 3 1 2 step 0 1",
        "cloud 1 1\nbasin a 0 3 0 0 step 0 1\nbasin b 1 3 1 1 step 1",
        "cloud 0 0\nbasin a 2 5 5 0 flap 2\nbasin b 0 3 0 0 step 0 3",
        "cloud 1 1\nbasin a 0 12 12 6 step 0 6 12\nbasin b 0 12 0 6 flap 0 12",
        "cloud 1 1\nbasin a 0 12 12 6 step 0 6 12\nbasin b 0 12 0 5 step 0 11\nbasin c 0 12 6 2 part 1",
    )
    return tuple(list(watched_rivers()) + some_rivers() + [read_river(text) for text in texts])


def long_river(many):
    """Basins one below the other with gates of all sorts, on some of which rain falls."""
    gates = (PartGate([1, 2, 3]), FlapGate([0, 3]), StepGate([0, 2, 4, 8]), StepGate([1, 2, 4, 6]))
    basins = [Basin(name, 0, 12, place % 4, 1 if place % 4 == 1 else 0, gates[place % 4])
              for place, name in enumerate(names(many))]
    return River(4, 2, basins, [Town("x", names(many)[0], 1)])


def long_rivers():
    """Rivers of up to sixteen basins, all of which have promises."""
    still = [Basin(name, 1, 9, 4, 0, StepGate([0, 3])) for name in names(16)]
    steep = [Basin(name, 0, 12, 0, 0 if place else 6, FlapGate([0, 4])) for place, name in enumerate(names(16))]
    slow = [Basin(name, 0, 12, 3, 0 if place else 1, StepGate([0, 1])) for place, name in enumerate(names(16))]
    return [
        long_river(2), long_river(7), long_river(16), River(12, 12, still, []), River(12, 6, steep, []),
        River(12, 3, slow, [Town("x", names(16)[3], 2)]),
    ]


class Promises(Refusing):
    def least(self, river):
        """The least of all rows of numbers that are promises, each tried; None where there are none."""
        rows = [row for row in rows_within([(0, 5)] * len(river.basins)) if are_right(river, row)]
        return [min(numbers) for numbers in zip(*rows)] if rows else None

    def test_whether_numbers_are_promises(self):
        kinds = []
        for river in promising_rivers():
            for row in rows_within([(0, 5)] * len(river.basins)) + [(12,) * len(river.basins)]:
                told = are_promises(river, list(row))
                self.assertIs(told, are_right(river, row))
                kinds.append(told)
        self.assertGreater(kinds.count(True), 50)
        self.assertGreater(kinds.count(False), 100)

    def test_the_least_promises_by_hand(self):
        river = promising_rivers()[-9]
        self.assertEqual(promises(river), [1, 2, 2])
        self.assertTrue(are_promises(river, [1, 2, 2]))
        self.assertTrue(are_promises(river, [2, 3, 3]))
        self.assertFalse(are_promises(river, [2, 2, 2]))
        self.assertEqual(promises(read_river("cloud 1 1\nbasin a 0 12 12 6 step 0 6 12\nbasin b 0 12 0 6 flap 0 12")),
                         [6, 12])
        with self.assertRaises(NoPromise) as caught:
            promises(promising_rivers()[-1])
        self.assertEqual(caught.exception.basin, 2)

    def test_the_least_promises(self):
        found, refused = 0, set()
        for river in promising_rivers():
            try:
                told = promises(river)
            except NoPromise as refusal:
                refused.add(refusal.basin)
                self.check_none(river, refusal.basin)
            else:
                found += 1
                self.assertEqual((type(told), [type(number) for number in told]), (list, [int] * len(river.basins)))
                self.assertTrue(are_right(river, told))
                for place, basin in enumerate(river.basins):
                    up = told[place - 1] if place else 0
                    self.assertFalse(any(is_held(basin, up, hi) for hi in range(told[place])))
        self.assertGreater(found, 5)
        self.assertEqual(refused, {0, 1, 2})

    def check_none(self, river, place):
        """The basins above the place have least numbers, and with these no number holds the one there."""
        up = 0
        for basin in river.basins[:place]:
            up = min(hi for hi in range(13) if is_held(basin, up, hi))
        self.assertFalse(any(is_held(river.basins[place], up, hi) for hi in range(13)))

    def test_none_has_a_lesser_number_anywhere(self):
        for river in promising_rivers():
            least = self.least(river)
            if least is not None:
                self.assertEqual(promises(river), least)
            else:
                # Where the least ones are refused, or beyond what was tried, no row that was tried is right.
                try:
                    self.assertGreater(max(promises(river)), 5)
                except NoPromise:
                    pass

    def test_what_is_no_list_of_numbers(self):
        river = mill_river()
        for place in (0, 1):
            for thing in no_numbers() + [-1, 13, FAR, -FAR]:
                row = [1, 1]
                row[place] = thing
                self.assertIs(are_promises(river, row), False)
                self.refused(NoNumber, row, lambda: local_keeper(river, row))
        wrong = [thing for thing in any_things() if thing != [1, 2]]
        for thing in wrong + [(1, 1), [1], [1, 1, 1], [[1, 1]], ([1, 1],), {0: 1, 1: 1}, "11", "1,1", [1, "1"]]:
            self.assertIs(are_promises(river, thing), False)
            self.refused(NoNumber, thing, lambda: local_keeper(river, thing))

    def test_a_tuple_of_promises_is_no_list_of_them(self):
        for river in long_rivers():
            told = promises(river)
            self.assertIs(are_promises(river, told), True)
            self.assertIs(are_promises(river, tuple(told)), False)
            self.refused(NoNumber, wrong := tuple(told), lambda: local_keeper(river, wrong))

    def test_long_rivers_that_none_can_hold(self):
        with self.assertRaises(NoPromise) as caught:
            promises(wide_river())
        self.check_none(wide_river(), caught.exception.basin)
        basins = list(long_river(16).basins)
        basins[11] = Basin("last", 0, 12, 6, 6, StepGate([0, 1]))
        with self.assertRaises(NoPromise) as caught:
            promises(River(4, 2, basins, []))
        self.assertEqual(caught.exception.basin, 11)


def keeping_rivers():
    """Small rivers that have promises, each with those promises up to some more than the least."""
    for river in promising_rivers():
        try:
            least = promises(river)
        except NoPromise:
            continue
        rows = [list(row) for row in rows_within([(number, min(number + 2, 12)) for number in least])]
        yield from ((river, row) for row in rows if are_promises(river, row))


class LocalKeeper(Refusing):
    def test_settings(self):
        found = set()
        for river, row in keeping_rivers():
            keeper = local_keeper(river, row)
            by_basin = [Alone(basin, up, hi) for basin, up, hi in zip(river.basins, [0] + row, row)]
            for standing in all_standings(river):
                lost = [place for place, level in enumerate(standing[0]) if level not in by_basin[place].held]
                if lost:
                    with self.assertRaises(NoPromise) as caught:
                        keeper(standing, 0)
                    self.assertEqual(caught.exception.basin, lost[0])
                else:
                    settings = tuple(alone.setting(level) for alone, level in zip(by_basin, standing[0]))
                    self.assertEqual(keeper(standing, 0), (settings, None))
                    self.assertEqual(keeper(standing, 199), (settings, None))
                found.add((lost or [None])[0])
        self.assertEqual(found, {None, 0, 1, 2})

    def test_every_rain_on_small_rivers(self):
        # All that can come from the beginning is gone through, whatever rain falls.
        gone_through = 0
        for river, row in keeping_rivers():
            keeper = local_keeper(river, row)
            held = [set(Alone(basin, up, hi).held) for basin, up, hi in zip(river.basins, [0] + row, row)]
            ahead, seen = [river.beginning()], {river.beginning()}
            while ahead:
                standing = ahead.pop()
                for rain in all_rains(river, standing[1]):
                    turn = turned(river, standing, keeper(standing, 0), rain)
                    self.assertEqual((turn.broken, turn.drawn), ((), 0))
                    self.assertTrue(all(out <= most for out, most in zip(turn.outs, row)))
                    self.assertTrue(all(level in levels for level, levels in zip(turn.levels, held)))
                    if turn.standing() not in seen:
                        seen.add(turn.standing())
                        ahead.append(turn.standing())
            gone_through += len(seen)
        self.assertGreater(gone_through, 500)

    def skies(self, river):
        """Skies that rain nothing, all they can, now here and now there, and to fill or to starve the last basins."""
        many = len(river.basins)
        rows = [[0] * many, [6] * many, [6] + [0] * (many - 1), [0] * (many - 1) + [6]]
        yield from (sky_of(river, [tuple(row)] * 200) for row in rows)
        for step in (2, 3, 5, 7):
            yield sky_of(river, [tuple(6 if (k * step + place) % 3 == 0 else 0 for place in range(many))
                                 for k in range(200)])
            yield sky_of(river, [tuple(6 if k // step % 2 == place % 2 else 0 for place in range(many))
                                 for k in range(200)])

    def test_long_rivers_under_whatever_rain(self):
        outs = set()
        for river in long_rivers():
            row = promises(river)
            self.assertTrue(are_promises(river, row))
            keeper = local_keeper(river, row)
            held = [lone_levels(basin, up, hi) for basin, up, hi in zip(river.basins, [0] + row, row)]
            for sky in self.skies(river):
                told = run(river, river.beginning(), keeper, sky, 200)
                self.assertEqual((told.word(), len(told.turns), told.taken()), ("held", 200, 0))
                for turn in told.turns:
                    self.assertTrue(is_standing(river, turn.standing()))
                    self.assertTrue(all(out <= most for out, most in zip(turn.outs, row)))
                    self.assertTrue(all(level in levels for level, levels in zip(turn.levels, held)))
                    outs.update(turn.outs)
        self.assertLessEqual({0, 1, 2, 3, 4}, outs)

    def test_every_level_and_every_rain_of_long_rivers(self):
        # What comes in a basin hangs on its level, on that of the basin above, and on its rain alone: so these are all.
        tried = 0
        for river in long_rivers():
            row = promises(river)
            keeper = local_keeper(river, row)
            held = [lone_levels(basin, up, hi) for basin, up, hi in zip(river.basins, [0] + row, row)]
            for place, basin in enumerate(river.basins):
                above = held[place - 1] if place else [0]
                for up, level, cubes in itertools.product(above, held[place], range(min(basin.rain, river.cloud) + 1)):
                    levels = list(river.beginning()[0])
                    if place:
                        levels[place - 1] = up
                    levels[place] = level
                    standing = (tuple(levels), cubes)
                    rain = tuple(cubes if other == place else 0 for other in range(len(levels)))
                    turn = turned(river, standing, keeper(standing, 0), rain)
                    self.assertIn(turn.levels[place], held[place])
                    self.assertLessEqual(turn.outs[place], row[place])
                    tried += 1
        self.assertGreater(tried, 5000)

    def test_refused_of_the_first_basin_that_is_not_held(self):
        river = long_river(16)
        row = promises(river)
        for place in range(16):
            if row[place] > 0:
                wrong = row[:place] + [0] + row[place + 1:]
                with self.assertRaises(NoPromise) as caught:
                    local_keeper(river, wrong)
                self.assertEqual(caught.exception.basin, place)
                self.assertIs(are_promises(river, wrong), False)
        for numbers, place in (([12] * 16, 1), ([0] * 16, 1)):
            with self.assertRaises(NoPromise) as caught:
                local_keeper(river, numbers)
            self.assertEqual(caught.exception.basin, place)

    def test_no_standing_ahead_of_no_promise(self):
        river = read_river("cloud 2 1\nbasin a 0 5 1 1 flap 2\nbasin b 0 5 2 0 flap 2\ntown x b 1")
        row = promises(river)
        self.assertEqual(row, [1, 1])
        keeper = local_keeper(river, row)
        for thing in no_standings(river, river.beginning()):
            self.refused(NoStanding, thing, lambda: keeper(thing, 0))
        for standing, place in ((((5, 5), 0), 0), (((1, 5), 0), 1), (((4, 1), 2), 0)):
            with self.assertRaises(NoPromise) as caught:
                keeper(standing, 3)
            self.assertEqual(caught.exception.basin, place)
        self.refused(NoStanding, wrong := ((5, 6), 0), lambda: keeper(wrong, 0))


class NothingIsChanged(unittest.TestCase):
    def test_what_is_told_is_the_askers_own(self):
        basin, river = pond(0, 5, 1, FlapGate([2])), long_river(3)
        levels, lost, row = lone_levels(basin, 0, 1), lone_lost(basin, 0, 1), promises(river)
        lone_levels(basin, 0, 1).clear()
        lone_lost(basin, 0, 1)[4][1].clear()
        lone_lost(basin, 0, 1).clear()
        promises(river).clear()
        self.assertEqual((lone_levels(basin, 0, 1), lone_lost(basin, 0, 1), promises(river)), (levels, lost, row))

    def test_what_is_done_to_the_list_later_changes_nothing(self):
        river = long_river(16)
        row = promises(river)
        kept = list(row)
        self.assertTrue(are_promises(river, row))
        keeper = local_keeper(river, row)
        self.assertEqual(row, kept)
        before = run(river, river.beginning(), keeper, sky_of(river, [(6,) * 16] * 50), 50).last()
        row[:] = [0] * 16
        self.assertEqual(run(river, river.beginning(), keeper, sky_of(river, [(6,) * 16] * 50), 50).last(), before)


if __name__ == "__main__":
    unittest.main()
