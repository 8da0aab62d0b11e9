"""Points 2, 4 to 7, 9 and 21 to 24: standings, choices, rains and turns, and what is refused of them."""

import itertools
import unittest

from things import (
    Refusing, all_choices, all_rains, all_standings, least_rain, mill_river, no_choices, no_rains, no_standings,
    rows_around, some_rivers, wide_river,
)
from weirwatch.errors import NoChoice, NoRain, NoStanding
from weirwatch.gates import FlapGate, PartGate, StepGate
from weirwatch.rivers import Basin, River, Town
from weirwatch.turns import Turn, is_choice, is_rain, is_standing, paid_by, turned


def one_basin(cloud, gain, rain):
    return River(cloud, gain, [Basin("a", 0, 12, 6, rain, StepGate([0]))], [])


class Standing(unittest.TestCase):
    def test_at_and_beside_all_bounds(self):
        for river in some_rivers():
            bounds = [(basin.low, basin.high) for basin in river.basins]
            rows = list(rows_around(bounds))
            for levels, wet in itertools.product(rows, range(-1, river.cloud + 2)):
                holds = all(low <= level <= high for level, (low, high) in zip(levels, bounds))
                self.assertIs(is_standing(river, (levels, wet)), holds and 0 <= wet <= river.cloud)

    def test_wrong_forms(self):
        for river in some_rivers():
            self.assertIs(is_standing(river, river.beginning()), True)
            for thing in no_standings(river, river.beginning()):
                self.assertIs(is_standing(river, thing), False, repr(thing))

    def test_a_long_river(self):
        river = wide_river()
        self.assertIs(is_standing(river, ((12,) * 16, 12)), True)
        self.assertIs(is_standing(river, ((0,) * 16, 0)), True)
        self.assertIs(is_standing(river, ((0,) * 15, 0)), False)
        self.assertIs(is_standing(river, ((0,) * 15 + (13,), 0)), False)


class Choice(unittest.TestCase):
    def test_at_and_beside_all_bounds(self):
        for river in some_rivers():
            bounds = [(0, basin.gate.settings() - 1) for basin in river.basins]
            for settings in rows_around(bounds):
                fits = all(0 <= setting <= high for setting, (low, high) in zip(settings, bounds))
                self.assertIs(is_choice(river, (settings, None)), fits)
                for town in range(-1, 5):
                    told = is_choice(river, (settings, town))
                    self.assertIs(told, fits and town in range(len(river.towns)))

    def test_wrong_forms(self):
        for river in some_rivers():
            for choice in (all_choices(river)[0], all_choices(river)[-1]):
                self.assertIs(is_choice(river, choice), True)
                for thing in no_choices(river, choice):
                    self.assertIs(is_choice(river, thing), False, repr(thing))


class Rain(Refusing):
    def test_at_and_beside_all_bounds(self):
        for river in some_rivers():
            most = [basin.rain for basin in river.basins]
            for wet in range(river.cloud + 1):
                standing = (river.beginning()[0], wet)
                for row in rows_around([(0, rain) for rain in most]):
                    fits = all(0 <= cubes <= rain for cubes, rain in zip(row, most))
                    enough = least_rain(river, wet) <= sum(row) <= wet
                    self.assertIs(is_rain(river, standing, row), fits and enough)

    def test_forced_rain_by_hand(self):
        rows = (
            # what the cloud can hold, its gain, the most rain, wet, and the least and most that may fall
            (12, 12, 6, 0, 0, 0), (12, 12, 6, 1, 1, 1), (12, 12, 6, 6, 6, 6), (12, 12, 6, 12, 6, 6),
            (12, 3, 6, 9, 0, 6), (12, 3, 6, 10, 1, 6), (12, 3, 6, 12, 3, 6), (12, 3, 2, 12, 2, 2),
            (5, 0, 4, 5, 0, 4), (5, 0, 4, 3, 0, 3), (5, 5, 0, 5, 0, 0), (5, 2, 6, 4, 1, 4), (0, 0, 6, 0, 0, 0),
        )
        for cloud, gain, rain, wet, least, most in rows:
            river = one_basin(cloud, gain, rain)
            told = [cubes for cubes in range(-2, 15) if is_rain(river, ((6,), wet), (cubes,))]
            self.assertEqual(told, list(range(least, most + 1)), (cloud, gain, rain, wet))

    def test_what_is_forced_is_forced_of_all_basins_together(self):
        river = wide_river()
        standing = ((6,) * 16, 12)
        self.assertIs(is_rain(river, standing, (6, 6) + (0,) * 14), True)
        self.assertIs(is_rain(river, standing, (0,) * 4 + (1,) * 12), True)
        self.assertIs(is_rain(river, standing, (6, 5) + (0,) * 14), False)
        self.assertIs(is_rain(river, standing, (6, 6, 1) + (0,) * 13), False)

    def test_wrong_forms(self):
        for river in some_rivers():
            standing = river.beginning()
            for rain in all_rains(river, standing[1]):
                self.assertIs(is_rain(river, standing, rain), True)
                for thing in no_rains(river, standing[1], rain):
                    self.assertIs(is_rain(river, standing, thing), False, repr(thing))

    def test_no_standing(self):
        for river in some_rivers():
            for thing in no_standings(river, river.beginning()):
                self.refused(NoStanding, thing, lambda: is_rain(river, thing, (0,) * len(river.basins)))
                self.refused(NoStanding, thing, lambda: is_rain(river, thing, None))


def let_by(gate, setting, level):
    """What the gate lets, by its sort and marks as the document tells them."""
    if isinstance(gate, StepGate):
        return min(gate.marks[setting], level)
    if isinstance(gate, FlapGate):
        return level - gate.marks[setting] if level > gate.marks[setting] else 0
    if isinstance(gate, PartGate):
        return (level - level % gate.marks[setting]) // gate.marks[setting]
    return let_by(gate.gate, gate.setting, level)


def turn_by_moves(river, standing, choice, rain):
    """The turn's values, cubes moved one way after the other: drawn, let out of all, let in, rained."""
    cubes = list(standing[0])
    drawn = 0
    for place, basin in enumerate(river.basins):
        for town in river.towns[choice[1]:choice[1] + 1] if choice[1] is not None else ():
            if town.basin == basin.name and cubes[place] >= town.want:
                drawn = town.want
                cubes[place] -= drawn
    outs = tuple(let_by(basin.gate, choice[0][place], cubes[place]) for place, basin in enumerate(river.basins))
    for place, out in enumerate(outs):
        cubes[place] -= out
        if place + 1 < len(outs):
            cubes[place + 1] += out
    wet = standing[1]
    for place, fell in enumerate(rain):
        cubes[place] += fell
        wet -= fell
    for cube in range(river.gain):
        if wet < river.cloud:
            wet += 1
    broken = tuple(p for p, b in enumerate(river.basins) if cubes[p] < b.low or cubes[p] > b.high)
    return (choice, rain, tuple(cubes), wet, outs, drawn, drawn > 0, broken)


def turn_values(turn):
    return (turn.choice, turn.rain, turn.levels, turn.wet, turn.outs, turn.drawn, turn.paid, turn.broken)


def every_turn():
    for river in some_rivers():
        for standing, choice in itertools.product(all_standings(river), all_choices(river)):
            for rain in all_rains(river, standing[1]):
                yield river, standing, choice, rain


class TurnsByHand(unittest.TestCase):
    def check(self, river, asked, levels, wet, outs, drawn, paid, broken):
        standing, choice, rain = asked
        turn = turned(river, standing, choice, rain)
        self.assertEqual(turn_values(turn), (choice, rain, levels, wet, outs, drawn, paid, broken))
        self.assertEqual(turn.standing(), (levels, wet))
        self.assertIs(paid_by(river, standing, choice), paid)

    def test_of_the_river_in_the_document(self):
        river = mill_river()
        self.check(river, (((2, 2), 2), ((1, 0), 0), (1, 0)), (1, 3), 2, (2, 0), 1, True, ())
        self.check(river, (((2, 2), 2), ((0, 1), None), (1, 1)), (3, 3), 1, (0, 0), 0, False, ())
        self.check(river, (((3, 3), 1), ((1, 0), None), (0, 0)), (1, 4), 2, (2, 1), 0, False, ())
        self.check(river, (((1, 4), 2), ((1, 1), 0), (0, 1)), (0, 5), 2, (1, 0), 1, True, (1,))

    def test_broken_above_and_below(self):
        river = mill_river()
        self.check(river, (((4, 4), 2), ((0, 1), None), (1, 0)), (5, 3), 2, (0, 1), 0, False, (0,))
        self.check(river, (((0, 1), 0), ((0, 0), 0), (0, 0)), (0, 0), 1, (0, 0), 1, True, (1,))
        self.check(river, (((4, 4), 2), ((0, 1), None), (1, 1)), (5, 4), 1, (0, 1), 0, False, (0,))
        basins = [Basin("a", 0, 2, 2, 1, StepGate([0])), Basin("b", 2, 3, 2, 0, StepGate([1]))]
        self.check(River(1, 0, basins, []), (((2, 2), 1), ((0, 0), None), (1, 0)), (3, 1), 0, (0, 1), 0, False, (0, 1))

    def test_a_town_draws_ahead_of_the_gate_and_even_below_the_lowest_level(self):
        river = River(2, 0, [Basin("a", 2, 4, 3, 2, StepGate([0, 3]))], [Town("x", "a", 3)])
        self.check(river, (((3,), 2), ((1,), 0), (2,)), (2,), 0, (0,), 3, True, ())
        self.check(river, (((4,), 2), ((1,), 0), (2,)), (2,), 0, (1,), 3, True, ())
        self.check(river, (((2,), 2), ((1,), 0), (2,)), (2,), 0, (2,), 0, False, ())

    def test_cubes_go_one_basin_down_in_a_turn(self):
        basins = [Basin(name, 0, 12, 3, 0, PartGate([1])) for name in "abc"]
        river = River(0, 0, basins, [])
        self.check(river, (((7, 0, 2), 0), ((0, 0, 0), None), (0, 0, 0)), (0, 7, 0), 0, (7, 0, 2), 0, False, ())

    def test_what_can_not_be_held_drifts_away(self):
        river = one_basin(5, 4, 2)
        self.check(river, (((6,), 5), ((0,), None), (2,)), (8,), 5, (0,), 0, False, ())
        self.check(river, (((6,), 2), ((0,), None), (1,)), (7,), 5, (0,), 0, False, ())
        self.check(river, (((6,), 1), ((0,), None), (1,)), (7,), 4, (0,), 0, False, ())

    def test_more_than_a_hundred_cubes(self):
        river = wide_river()
        rain = (6,) + (0,) * 14 + (6,)
        levels = (6,) + (12,) * 14 + (24,)
        self.check(river, (((12,) * 16, 12), ((3,) * 15 + (0,), None), rain),
                   levels[:15] + (30,), 12, (12,) * 15 + (0,), 0, False, (15,))


class EveryTurn(unittest.TestCase):
    def test_goes_as_told(self):
        for asked in every_turn():
            self.assertEqual(turn_values(turned(*asked)), turn_by_moves(*asked))

    def test_each_cube_is_kept(self):
        for river, standing, choice, rain in every_turn():
            turn = turned(river, standing, choice, rain)
            self.assertEqual(sum(standing[0]) + sum(rain), sum(turn.levels) + turn.drawn + turn.outs[-1])

    def test_breaks_or_leads_to_a_standing(self):
        found = set()
        for river, standing, choice, rain in every_turn():
            turn = turned(river, standing, choice, rain)
            self.assertEqual(turn.standing(), (turn.levels, turn.wet))
            self.assertIs(is_standing(river, turn.standing()), turn.broken == ())
            found.add((turn.broken, turn.paid))
        self.assertGreater(len(found), 4)

    def test_kinds(self):
        for asked in every_turn():
            turn = turned(*asked)
            self.assertIs(type(turn), Turn)
            kinds = [type(value) for value in turn_values(turn)]
            self.assertEqual(kinds, [tuple, tuple, tuple, int, tuple, int, bool, tuple])

    def test_asked_again(self):
        river = mill_river()
        asked = (river, ((2, 2), 2), ((1, 0), 0), (1, 0))
        one, other = turned(*asked), turned(*asked)
        self.assertEqual(turn_values(one), turn_values(other))
        self.assertEqual(river.beginning(), ((2, 2), 2))


class Paid(Refusing):
    def test_every_choice_at_every_standing(self):
        for river in some_rivers():
            for standing, choice in itertools.product(all_standings(river), all_choices(river)):
                told = paid_by(river, standing, choice)
                place = {basin.name: place for place, basin in enumerate(river.basins)}
                served = [town for number, town in enumerate(river.towns) if number == choice[1]]
                self.assertIs(told, any(standing[0][place[town.basin]] >= town.want for town in served))

    def test_refused(self):
        for river in some_rivers():
            standing, choice = river.beginning(), all_choices(river)[-1]
            for thing in no_standings(river, standing):
                self.refused(NoStanding, thing, lambda: paid_by(river, thing, choice))
                self.refused(NoStanding, thing, lambda: paid_by(river, thing, None))
            for thing in no_choices(river, choice):
                self.refused(NoChoice, thing, lambda: paid_by(river, standing, thing))


class Refused(Refusing):
    def test_no_standing_ahead_of_all(self):
        for river in some_rivers():
            choice, rain = all_choices(river)[0], all_rains(river, river.cloud)[0]
            for thing in no_standings(river, river.beginning()):
                self.refused(NoStanding, thing, lambda: turned(river, thing, choice, rain))
                self.refused(NoStanding, thing, lambda: turned(river, thing, [], "rain"))

    def test_no_choice_ahead_of_no_rain(self):
        for river in some_rivers():
            standing = river.beginning()
            for thing in no_choices(river, all_choices(river)[-1]):
                self.refused(NoChoice, thing, lambda: turned(river, standing, thing, all_rains(river, river.cloud)[0]))
                self.refused(NoChoice, thing, lambda: turned(river, standing, thing, []))

    def test_no_rain(self):
        for river in some_rivers():
            standing, choice = river.beginning(), all_choices(river)[-1]
            for thing in no_rains(river, river.cloud, all_rains(river, river.cloud)[0]):
                self.refused(NoRain, thing, lambda: turned(river, standing, choice, thing))

    def test_too_little_and_too_much_rain(self):
        river = mill_river()
        for standing, rain in (((2, 2), 2), (0, 0)), (((2, 2), 1), (1, 1)), (((2, 2), 0), (0, 1)), (((2, 2), 2), (2, 0)):
            self.refused(NoRain, rain, lambda: turned(river, standing, ((0, 0), None), rain))

    def test_no_turn_behind_a_break(self):
        river = mill_river()
        turn = turned(river, ((4, 4), 2), ((0, 1), None), (1, 0))
        broken = turn.standing()
        self.refused(NoStanding, broken, lambda: turned(river, broken, ((0, 1), None), (1, 0)))


if __name__ == "__main__":
    unittest.main()
