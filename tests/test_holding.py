"""Points 4 to 9 and 41 to 45: which standings are held and which are lost, and by what choices and rains."""

import itertools
import unittest

from things import (
    Refusing, all_standings, dry_river, ends_in, let_choices, light_rivers, lost_numbers, mill_river, no_choices,
    no_standings, no_stuck, some_skies, stuck_ways, watched_rivers, watched_ways, wide_river,
)
from weirwatch.errors import NoChoice, NoStanding, NoStuck, TooMany
from weirwatch.gates import FlapGate, PartGate, StepGate, StuckGate
from weirwatch.holding import Holding
from weirwatch.rivers import Basin, River
from weirwatch.rivertext import read_river
from weirwatch.runs import run
from weirwatch.standings import Standings, weigh


def is_closed(river, choices, standings):
    """Whether each of the standings has a choice behind which one of them comes, whatever rain falls."""
    return all(
        any(all(end in standings for rain, end in ends_in(river)[standing, choice]) for choice in choices)
        for standing in standings
    )


def greatest_closed(river, stuck):
    """All closed sets together, each set of standings tried."""
    found, choices = set(), let_choices(river, stuck)
    for picks in itertools.product((False, True), repeat=len(all_standings(river))):
        standings = {standing for standing, pick in zip(all_standings(river), picks) if pick}
        if is_closed(river, choices, standings):
            found |= standings
    return found


def tiny_rivers():
    """Rivers of so few standings that each set of them can be tried."""
    return [read_river(text) for text in (
        "cloud 1 1\nbasin a 0 3 0 1 step 0 1",
        "cloud 1 0\nbasin a 0 3 0 1 step 1",
        "cloud 1 1\nbasin a 1 3 1 1 flap 1 2\ntown x a 1",
        "cloud 0 0\nbasin a 0 2 1 0 step 1 2\nbasin b 1 3 1 0 step 0 2",
        "cloud 2 1\nbasin a 1 3 2 1 part 2 3\ntown x a 2",
    )]


class ByHand(Refusing):
    def test_a_basin_that_rain_fills(self):
        # One cube may fall in each turn, and the gate lets none: so each cube of room is a turn.
        river = read_river("cloud 1 1\nbasin a 0 3 0 1 step 0")
        holding = Holding(river)
        self.assertEqual(holding.held_many(), 0)
        # Where the cloud has no cube the sky waits a turn for one.
        told = {level: [holding.turns_left(((level,), wet)) for wet in (0, 1)] for level in range(4)}
        self.assertEqual(told, {0: [5, 4], 1: [4, 3], 2: [3, 2], 3: [2, 1]})
        self.assertEqual(holding.rain_for(((3,), 1), ((0,), None)), (1,))
        self.assertEqual(holding.rain_for(((3,), 0), ((0,), None)), (0,))
        self.assertEqual(holding.keeper_table(), {})

    def test_a_gate_that_lets_as_much_as_falls(self):
        river = read_river("cloud 1 1\nbasin a 0 3 0 1 step 0 1")
        holding = Holding(river)
        self.assertEqual(holding.held_many(), 8)
        self.assertEqual(holding.good_choices(((3,), 1)), [((1,), None)])
        self.assertEqual(holding.good_choices(((2,), 1)), [((0,), None), ((1,), None)])
        self.assertEqual(holding.choice_for(((3,), 1)), ((1,), None))
        self.assertEqual(holding.choice_for(((2,), 1)), ((0,), None))
        self.assertIs(holding.rain_for(((3,), 1), ((0,), None)), None)
        self.assertEqual(holding.sky_table(), {})
        stuck = Holding(river, {0: 0})
        self.assertEqual((stuck.held_many(), stuck.turns_left(((0,), 1))), (0, 4))

    def test_a_basin_that_runs_dry(self):
        # No rain ever falls; one setting lets a cube, the other two, and the lowest level is 1.
        river = read_river("cloud 0 0\nbasin a 1 5 3 1 step 1 2")
        holding = Holding(river)
        self.assertEqual([holding.turns_left(((level,), 0)) for level in range(1, 6)], [1, 2, 3, 4, 5])
        self.assertEqual(holding.sky_table()[((2,), 0)], (2, {((0,), None): (0,), ((1,), None): (0,)}))

    def test_some_held_and_some_lost(self):
        # What the upper gate lets can't be stopped, and the lower basin can't let as much.
        river = read_river("cloud 0 0\nbasin a 0 4 0 0 step 2\nbasin b 0 3 0 0 step 1")
        holding = Holding(river)
        held = {standing[0] for standing in holding.keeper_table()}
        self.assertIn((0, 3), held)
        self.assertIn((2, 2), held)
        self.assertIn((1, 3), held)
        self.assertNotIn((2, 3), held)
        self.assertNotIn((4, 2), held)
        self.assertEqual(holding.turns_left(((2, 3), 0)), 1)
        self.assertEqual(holding.turns_left(((4, 2), 0)), 2)

    def test_the_first_rain_of_those_that_bring_it_nearer(self):
        river = read_river("cloud 2 1\nbasin a 0 1 0 1 step 0\nbasin b 0 1 0 1 step 0")
        holding = Holding(river)
        self.assertEqual(holding.turns_left(((1, 1), 2)), 1)
        self.assertEqual(holding.rain_for(((1, 1), 2), ((0, 0), None)), (0, 1))
        self.assertEqual(holding.rain_for(((1, 0), 2), ((0, 0), None)), (1, 0))
        self.assertEqual(holding.rain_for(((0, 0), 2), ((0, 0), None)), (0, 1))


class EveryStanding(Refusing):
    def test_numbers(self):
        found = set()
        for river, stuck in watched_ways():
            holding, numbers = Holding(river, stuck), lost_numbers(river, stuck)
            for standing in all_standings(river):
                self.assertEqual(holding.turns_left(standing), numbers.get(standing))
                self.assertIs(holding.held(standing), standing not in numbers)
            self.assertEqual(holding.held_many(), len(all_standings(river)) - len(numbers))
            found |= set(numbers.values())
        self.assertEqual(found, {1, 2, 3, 4, 5, 6, 7})

    def test_the_greatest_set(self):
        for river in tiny_rivers():
            for stuck in stuck_ways(river):
                holding = Holding(river, stuck)
                held = {standing for standing in all_standings(river) if holding.held(standing)}
                self.assertEqual(held, greatest_closed(river, stuck))

    def test_good_choices(self):
        for river, stuck in watched_ways():
            holding, lost = Holding(river, stuck), lost_numbers(river, stuck)
            for standing in all_standings(river):
                good = []
                for choice in let_choices(river, stuck):
                    ends = [end for rain, end in ends_in(river)[standing, choice]]
                    if not any(end is None or end in lost for end in ends):
                        good.append(choice)
                self.assertEqual(holding.good_choices(standing), good)
                self.assertEqual(good == [], standing in lost)
                self.assertEqual(holding.choice_for(standing), good[0] if good else None)

    def test_rains(self):
        for river, stuck in watched_ways():
            holding, lost = Holding(river, stuck), lost_numbers(river, stuck)
            for standing, choice in itertools.product(all_standings(river), let_choices(river, stuck)):
                told = None
                if standing in lost:
                    told = next(rain for rain, end in ends_in(river)[standing, choice]
                                if end is None or end in lost and lost[end] < lost[standing])
                self.assertEqual(holding.rain_for(standing, choice), told)

    def test_tables(self):
        for river, stuck in watched_ways():
            holding, lost = Holding(river, stuck), lost_numbers(river, stuck)
            keeper, sky = holding.keeper_table(), holding.sky_table()
            self.assertEqual(set(sky), set(lost))
            self.assertEqual(set(keeper) | set(sky), set(all_standings(river)))
            self.assertEqual(len(keeper) + len(sky), len(all_standings(river)))
            for standing, choice in keeper.items():
                self.assertEqual(choice, holding.choice_for(standing))
            for standing, row in sky.items():
                rains = {choice: holding.rain_for(standing, choice) for choice in let_choices(river, stuck)}
                self.assertEqual(row, (lost[standing], rains))

    def test_kinds(self):
        for river, stuck in watched_ways():
            holding = Holding(river, stuck)
            self.assertIs(type(holding.standings), Standings)
            self.assertIs(holding.standings.river, river)
            self.assertEqual(holding.standings.choices(), let_choices(river, stuck))
            self.assertIs(type(holding.held_many()), int)
            self.assertIs(type(holding.good_choices(river.beginning())), list)
            for standing, choice in holding.keeper_table().items():
                self.assertEqual([type(standing), type(choice)], [tuple, tuple])
            for row in holding.sky_table().values():
                self.assertEqual([type(row), type(row[0]), type(row[1])], [tuple, int, dict])


class Whole(unittest.TestCase):
    def test_what_is_held_is_held_whatever_rain_falls(self):
        for river, stuck in watched_ways():
            table = Holding(river, stuck).keeper_table()
            for standing, choice in table.items():
                for rain, end in ends_in(river)[standing, choice]:
                    self.assertIn(end, table)

    def test_runs_from_held_standings(self):
        for river, stuck in watched_ways():
            holding = Holding(river, stuck)
            for standing, sky in itertools.product(holding.keeper_table(), some_skies(river)):
                told = run(river, standing, lambda now, k: holding.choice_for(now), sky, 15)
                self.assertEqual((told.word(), len(told.turns)), ("held", 15))

    def test_what_is_lost_is_broken_in_as_many_turns_whatever_the_keeper_does(self):
        for river, stuck in watched_ways():
            table = Holding(river, stuck).sky_table()
            for standing, (number, rains) in table.items():
                for choice, rain in rains.items():
                    end = dict(ends_in(river)[standing, choice])[rain]
                    self.assertTrue(end is None or table[end][0] < number)

    def test_runs_from_lost_standings(self):
        for river, stuck in watched_ways():
            holding, choices = Holding(river, stuck), let_choices(river, stuck)
            keepers = [
                lambda now, k: choices[0], lambda now, k: choices[-1], lambda now, k: choices[k % len(choices)],
                lambda now, k: choices[(k + sum(now[0])) % len(choices)],
            ]
            for standing, keeper in itertools.product(holding.sky_table(), keepers):
                sky = lambda now, choice, k: holding.rain_for(now, choice)
                told = run(river, standing, keeper, sky, holding.turns_left(standing))
                self.assertEqual(told.word(), "broken")

    def test_no_sky_breaks_a_basin_in_fewer_turns(self):
        for river, stuck in watched_ways():
            holding = Holding(river, stuck)
            for standing, (number, rains) in holding.sky_table().items():
                # Some choice keeps off all that is nearer than one turn less.
                best = max(
                    min(0 if end is None else holding.turns_left(end) or number
                        for rain, end in ends_in(river)[standing, choice])
                    for choice in rains
                )
                self.assertEqual(best, number - 1)


def with_gate(river, place, gate):
    """The river with another gate there."""
    old = river.basins[place]
    new = Basin(old.name, old.low, old.high, old.start, old.rain, gate)
    return River(river.cloud, river.gain, river.basins[:place] + (new,) + river.basins[place + 1:], river.towns)


def fewer_marks(gate):
    """The gate with each of its marks left out, but the last that is left."""
    kind = type(gate)
    if kind not in (StepGate, FlapGate, PartGate) or len(gate.marks) < 2:
        return []
    return [kind(gate.marks[:k] + gate.marks[k + 1:]) for k in range(len(gate.marks))]


class FewerSettings(unittest.TestCase):
    def test_where_gates_stick_no_more_is_held(self):
        fewer = 0
        for river in watched_rivers():
            free = Holding(river)
            for stuck in stuck_ways(river):
                holding = Holding(river, stuck)
                for standing in all_standings(river):
                    self.assertFalse(holding.held(standing) and not free.held(standing))
                    if not free.held(standing):
                        self.assertLessEqual(holding.turns_left(standing), free.turns_left(standing))
                    fewer += free.held(standing) and not holding.held(standing)
        self.assertGreater(fewer, 50)

    def test_where_one_more_gate_sticks_no_more_is_held(self):
        for river in watched_rivers():
            places = range(len(river.basins))
            for setting in itertools.product(*[range(basin.gate.settings()) for basin in river.basins]):
                held = None
                for many in places:
                    table = Holding(river, {place: setting[place] for place in places[:many + 1]}).keeper_table()
                    self.assertTrue(held is None or set(table) <= held)
                    held = set(table)

    def test_with_fewer_marks_no_more_is_held(self):
        tried = 0
        for river in watched_rivers():
            held = set(Holding(river).keeper_table())
            for place, basin in enumerate(river.basins):
                for gate in fewer_marks(basin.gate):
                    self.assertLessEqual(set(Holding(with_gate(river, place, gate)).keeper_table()), held)
                    tried += 1
        self.assertGreater(tried, 20)

    def test_a_gate_that_sticks_is_as_a_stuck_gate(self):
        for river in watched_rivers():
            for place, basin in enumerate(river.basins):
                for setting in range(basin.gate.settings()):
                    one = Holding(river, {place: setting})
                    other = Holding(with_gate(river, place, StuckGate(basin.gate, setting)))
                    for standing in all_standings(river):
                        self.assertEqual(one.turns_left(standing), other.turns_left(standing))

    def test_none_and_the_dict_without_keys_are_alike(self):
        for river in watched_rivers():
            tables = [(holding.keeper_table(), holding.sky_table())
                      for holding in (Holding(river), Holding(river, None), Holding(river, stuck={}))]
            self.assertEqual(tables[0], tables[1])
            self.assertEqual(tables[0], tables[2])


class Refused(Refusing):
    def test_no_stuck(self):
        for river in light_rivers() + [wide_river()]:
            for thing in no_stuck(river):
                self.refused(NoStuck, thing, lambda: Holding(river, thing))

    def test_too_many(self):
        for river, stuck in (wide_river(), None), (wide_river(), {3: 1}), (dry_river((13, 11), 6, (4, 1)), {1: 0}):
            with self.assertRaises(TooMany) as caught:
                Holding(river, stuck)
            self.assertEqual(caught.exception.count, weigh(river, stuck))
        self.assertEqual(Holding(dry_river((10, 10), 4, (4, 2))).held_many(), 500)

    def test_no_standing(self):
        for river in light_rivers():
            for stuck in (None, {0: 0}):
                holding = Holding(river, stuck)
                for thing in no_standings(river, river.beginning()):
                    for ask in (holding.held, holding.turns_left, holding.good_choices, holding.choice_for):
                        self.refused(NoStanding, thing, lambda: ask(thing))
                    self.refused(NoStanding, thing, lambda: holding.rain_for(thing, let_choices(river, stuck)[0]))
                    self.refused(NoStanding, thing, lambda: holding.rain_for(thing, None))

    def test_no_choice_held_or_lost(self):
        kinds = set()
        for river in light_rivers():
            holding = Holding(river)
            for standing in (all_standings(river)[0], all_standings(river)[-1]):
                kinds.add(holding.held(standing))
                for thing in no_choices(river, let_choices(river, None)[-1]):
                    self.refused(NoChoice, thing, lambda: holding.rain_for(standing, thing))
        self.assertEqual(kinds, {True, False})

    def test_a_choice_that_stuck_gates_do_not_let_be(self):
        kinds = set()
        for river, stuck in watched_ways():
            holding, let = Holding(river, stuck), let_choices(river, stuck)
            for standing in (all_standings(river)[0], all_standings(river)[-1]):
                kinds.add(holding.held(standing))
                for choice in let_choices(river, None):
                    if choice not in let:
                        self.refused(NoChoice, choice, lambda: holding.rain_for(standing, choice))
        self.assertEqual(kinds, {True, False})


class NothingIsChanged(unittest.TestCase):
    def test_what_is_told_is_the_askers_own(self):
        river = watched_rivers()[4]
        holding = Holding(river)
        before = (holding.keeper_table(), holding.sky_table(), holding.good_choices(((7,), 3)))
        standing = next(iter(holding.sky_table()))
        holding.keeper_table().clear()
        holding.sky_table()[standing][1].clear()
        holding.sky_table().clear()
        for held in holding.keeper_table():
            holding.good_choices(held).clear()
        self.assertEqual((holding.keeper_table(), holding.sky_table(), holding.good_choices(((7,), 3))), before)

    def test_what_is_done_to_the_dict_later_changes_nothing(self):
        river, stuck = mill_river(), {0: 1}
        holding = Holding(river, stuck)
        before = (holding.keeper_table(), holding.sky_table())
        stuck.clear()
        self.assertEqual((holding.keeper_table(), holding.sky_table()), before)
        self.assertEqual(holding.standings.choices(), let_choices(river, {0: 1}))


if __name__ == "__main__":
    unittest.main()
