"""Points 2, 4 to 6 and 31 to 37: standings numbered and weighed, gates that stick, and what comes behind a choice."""

import itertools
import math
import unittest

from things import (
    FAR, Refusing, all_rains, all_standings, dry_river, ends_in, let_choices, light_rivers, mill_river, names, no_choices,
    no_numbers, no_standings, no_stuck, rows_within, some_rivers, watched_rivers, watched_ways, wide_river,
)
from weirwatch.errors import NoChoice, NoNumber, NoStuck, NoStanding, TooMany
from weirwatch.gates import PartGate, StepGate, StuckGate
from weirwatch.rivers import Basin, River, Town
from weirwatch.standings import Standings, weigh
from weirwatch.turns import paid_by


def rain_rows(river):
    return [row for row in rows_within([(0, basin.rain) for basin in river.basins]) if sum(row) <= river.cloud]


def thin_river():
    """Sixteen basins of one level each, and of so few rains that it can be put in a row."""
    return River(2, 1, [Basin(name, 1, 1, 1, 1, StepGate([1])) for name in names(16)], [])


class Weight(Refusing):
    def test_by_hand(self):
        river = mill_river()
        self.assertEqual(weigh(river), 60 * 8 * 4)
        self.assertEqual(weigh(river, None), 1920)
        self.assertEqual(weigh(river, {}), 1920)
        self.assertEqual(weigh(river, {0: 1}), 960)
        self.assertEqual(weigh(river, {1: 0, 0: 0}), 480)

    def test_rains_that_the_cloud_can_not_hold_do_not_count(self):
        rows = (
            # what the cloud can hold, the most rain on two basins, and how many rows there are
            (0, 6, 6, 1), (1, 6, 6, 3), (2, 1, 6, 5), (2, 1, 1, 4), (3, 1, 6, 7), (4, 0, 2, 3), (12, 6, 6, 49),
            (11, 6, 6, 48), (5, 6, 6, 21), (6, 6, 6, 28), (7, 6, 6, 34),
        )
        for cloud, above, below, many in rows:
            basins = [Basin("a", 0, 0, 0, above, StepGate([0])), Basin("b", 0, 0, 0, below, StepGate([0]))]
            for gain in {0, cloud}:
                self.assertEqual(weigh(River(cloud, gain, basins, [])), (cloud + 1) * many)

    def test_every_small_river(self):
        for river, stuck in watched_ways():
            told = len(all_standings(river)) * len(let_choices(river, stuck)) * len(rain_rows(river))
            self.assertEqual(weigh(river, stuck), told)
            self.assertEqual(Standings(river, stuck).weight(), told)

    def test_long_rivers(self):
        river = wide_river()
        rows = math.comb(28, 16) - 16 * math.comb(21, 16)
        self.assertEqual(weigh(river), 13 ** 16 * 13 * 4 ** 16 * 2 * rows)
        self.assertEqual(weigh(river, {15: 3, 2: 0}), 13 ** 16 * 13 * 4 ** 14 * 2 * rows)
        self.assertEqual(weigh(thin_river()), 3 * (1 + 16 + 120))

    def test_towns_and_stuck_gates_count_as_they_are(self):
        gate = StuckGate(StepGate([0, 1, 2]), 1)
        towns = [Town(name, "a", 1) for name in "xyz"]
        for many in range(4):
            river = River(1, 1, [Basin("a", 0, 2, 1, 1, gate)], towns[:many])
            self.assertEqual(weigh(river), 3 * 2 * (many + 1) * 2)
            self.assertEqual(weigh(river, {0: 0}), weigh(river))

    def test_no_stuck(self):
        for river in some_rivers() + [wide_river()]:
            for thing in no_stuck(river):
                self.refused(NoStuck, thing, lambda: weigh(river, thing))


class Made(Refusing):
    def test_no_stuck_ahead_of_too_many(self):
        for river in some_rivers() + [wide_river()]:
            for thing in no_stuck(river):
                self.refused(NoStuck, thing, lambda: Standings(river, thing))

    def too_many(self, river, stuck, count):
        with self.assertRaises(TooMany) as caught:
            Standings(river, stuck)
        self.assertEqual(caught.exception.count, count)

    def test_up_to_the_bound(self):
        river = dry_river((10, 10), 4, (4, 2))
        self.assertEqual((weigh(river), Standings(river).weight(), Standings(river).many()), (4000, 4000, 500))

    def test_beyond_the_bound(self):
        river = dry_river((13, 11), 6, (4, 1))
        self.too_many(river, None, 4004)
        self.too_many(river, {}, 4004)
        self.too_many(river, {1: 0}, 4004)
        self.assertEqual(Standings(river, {0: 3}).weight(), 1001)
        wide = wide_river()
        self.too_many(wide, None, weigh(wide))
        self.too_many(wide, {0: 1}, weigh(wide) // 4)

    def test_its_river(self):
        river = mill_river()
        self.assertIs(Standings(river).river, river)
        self.assertIs(Standings(river, stuck={0: 0}).river, river)

    def test_what_is_done_to_the_dict_later_changes_nothing(self):
        river = mill_river()
        stuck = {0: 1}
        standings = Standings(river, stuck)
        stuck[0] = 0
        stuck[1] = 1
        self.assertEqual(standings.choices(), let_choices(river, {0: 1}))
        self.assertEqual((standings.weight(), stuck), (960, {0: 1 - 1, 1: 1}))


class Choices(Refusing):
    def test_by_hand(self):
        self.assertEqual(Standings(mill_river()).choices(), [
            ((0, 0), None), ((0, 0), 0), ((0, 1), None), ((0, 1), 0),
            ((1, 0), None), ((1, 0), 0), ((1, 1), None), ((1, 1), 0),
        ])
        self.assertEqual(Standings(mill_river(), {0: 1}).choices(), [
            ((1, 0), None), ((1, 0), 0), ((1, 1), None), ((1, 1), 0),
        ])
        self.assertEqual(Standings(mill_river(), {1: 0, 0: 1}).choices(), [((1, 0), None), ((1, 0), 0)])

    def test_three_towns(self):
        river = River(0, 0, [Basin("a", 0, 0, 0, 0, StepGate([1]))], [Town(name, "a", 1) for name in "zyx"])
        self.assertEqual(Standings(river).choices(), [((0,), None), ((0,), 0), ((0,), 1), ((0,), 2)])

    def test_every_small_river(self):
        for river, stuck in watched_ways():
            self.assertEqual(Standings(river, stuck).choices(), let_choices(river, stuck))

    def test_places(self):
        for river, stuck in watched_ways():
            standings = Standings(river, stuck)
            let = let_choices(river, stuck)
            for choice in let_choices(river, None):
                if choice in let:
                    self.assertEqual(standings.place_of_choice(choice), let.index(choice))
                else:
                    self.refused(NoChoice, choice, lambda: standings.place_of_choice(choice))

    def test_no_choices(self):
        for river in light_rivers():
            standings = Standings(river)
            for thing in no_choices(river, standings.choices()[-1]):
                self.refused(NoChoice, thing, lambda: standings.place_of_choice(thing))

    def test_the_list_is_the_askers_own(self):
        standings = Standings(mill_river())
        standings.choices().clear()
        standings.choices().append(None)
        self.assertEqual(standings.choices(), let_choices(mill_river(), None))


class Rains(Refusing):
    def test_by_hand(self):
        standings = Standings(mill_river())
        self.assertEqual(standings.rains(0), [(0, 0)])
        self.assertEqual(standings.rains(1), [(0, 0), (0, 1), (1, 0)])
        self.assertEqual(standings.rains(2), [(0, 1), (1, 0), (1, 1)])

    def test_every_small_river(self):
        for river, stuck in watched_ways():
            standings = Standings(river, stuck)
            for wet in range(river.cloud + 1):
                self.assertEqual(standings.rains(wet), sorted(all_rains(river, wet)))
                self.assertGreater(len(standings.rains(wet)), 0)

    def test_many_basins(self):
        standings = Standings(thin_river())
        ones = [tuple(int(place == one) for place in range(16)) for one in range(16)]
        twos = [tuple(int(place in pair) for place in range(16)) for pair in itertools.combinations(range(16), 2)]
        self.assertEqual(standings.rains(0), [(0,) * 16])
        self.assertEqual(standings.rains(1), sorted([(0,) * 16] + ones))
        self.assertEqual(standings.rains(2), sorted(ones + twos))

    def test_rows_that_the_cloud_can_not_hold_are_not_made(self):
        river = River(1, 1, [Basin(name, 0, 0, 0, 6, StepGate([0])) for name in names(16)], [])
        self.assertEqual(len(Standings(river).rains(1)), 16)

    def test_no_number(self):
        for river in light_rivers():
            standings = Standings(river)
            for thing in no_numbers() + [-1, river.cloud + 1, FAR, -FAR]:
                self.refused(NoNumber, thing, lambda: standings.rains(thing))

    def test_the_list_is_the_askers_own(self):
        standings = Standings(mill_river())
        before = [standings.followers(number, 0) for number in range(60)]
        standings.rains(1).clear()
        self.assertEqual(standings.rains(1), [(0, 0), (0, 1), (1, 0)])
        self.assertEqual([standings.followers(number, 0) for number in range(60)], before)


class Numbers(Refusing):
    def test_by_hand(self):
        standings = Standings(mill_river())
        self.assertEqual(standings.many(), 60)
        rows = (
            (((0, 1), 0), 0), (((0, 1), 1), 1), (((0, 1), 2), 2), (((1, 1), 0), 3), (((4, 1), 2), 14),
            (((0, 2), 0), 15), (((2, 3), 1), 37), (((4, 4), 2), 59),
        )
        for standing, number in rows:
            self.assertEqual(standings.number_of(standing), number)
            self.assertEqual(standings.standing_at(number), standing)

    def test_every_small_river(self):
        for river, stuck in watched_ways():
            standings = Standings(river, stuck)
            self.assertEqual(standings.many(), len(all_standings(river)))
            levels = [basin.high - basin.low + 1 for basin in river.basins]
            told = {}
            for row, wet in all_standings(river):
                heights = [level - basin.low for level, basin in zip(row, river.basins)]
                above = sum(height * math.prod(levels[:place]) for place, height in enumerate(heights))
                told[wet + (river.cloud + 1) * above] = (row, wet)
            self.assertEqual(sorted(told), list(range(standings.many())))
            self.assertEqual([standings.standing_at(number) for number in sorted(told)], [told[k] for k in sorted(told)])
            self.assertEqual([standings.number_of(told[number]) for number in sorted(told)], sorted(told))

    def test_no_standing(self):
        for river in light_rivers():
            standings = Standings(river, {0: 0})
            for thing in no_standings(river, river.beginning()):
                self.refused(NoStanding, thing, lambda: standings.number_of(thing))

    def test_no_number(self):
        for river in light_rivers():
            standings = Standings(river)
            for thing in no_numbers() + [-1, standings.many(), FAR, -FAR]:
                self.refused(NoNumber, thing, lambda: standings.standing_at(thing))


class Behind(Refusing):
    def test_by_hand(self):
        standings = Standings(mill_river())
        number = standings.number_of(((4, 4), 2))
        # Set at 0 and 1: the upper basin keeps its 4, the lower one is left with 3.
        self.assertEqual(standings.followers(number, 2), [standings.number_of(((4, 4), 2))])
        self.assertIs(standings.breaks(number, 2), True)
        # Set at 1 and 1, the mill served: the lower basin is left with 3, and 2 come down to it.
        self.assertEqual(standings.followers(number, 7), [])
        self.assertIs(standings.breaks(number, 7), True)
        self.assertEqual((standings.pays(number, 2), standings.pays(number, 7)), (None, 0))
        low = standings.number_of(((0, 2), 1))
        ends = [((0, 2), 2), ((0, 3), 1), ((1, 2), 1)]
        self.assertEqual(standings.followers(low, 0), sorted(standings.number_of(end) for end in ends))
        self.assertIs(standings.breaks(low, 0), False)

    def test_every_small_river(self):
        for river, stuck in watched_ways():
            standings = Standings(river, stuck)
            number_of = {standings.standing_at(number): number for number in range(standings.many())}
            for place, choice in enumerate(let_choices(river, stuck)):
                for standing, number in number_of.items():
                    ends = [end for rain, end in ends_in(river)[standing, choice]]
                    told = sorted({number_of[end] for end in ends if end is not None})
                    self.assertEqual(standings.followers(number, place), told)
                    self.assertIs(standings.breaks(number, place), None in ends)
                    paid = choice[1] if paid_by(river, standing, choice) else None
                    self.assertEqual(standings.pays(number, place), paid)

    def test_no_number_of_a_standing_ahead_of_no_place(self):
        for river in light_rivers():
            standings = Standings(river, {0: 0})
            for ask in (standings.followers, standings.breaks, standings.pays):
                for thing in no_numbers() + [-1, standings.many(), FAR, -FAR]:
                    self.refused(NoNumber, thing, lambda: ask(thing, 0))
                    self.refused(NoNumber, thing, lambda: ask(thing, None))
                for thing in no_numbers() + [-1, len(standings.choices()), FAR, -FAR]:
                    self.refused(NoNumber, thing, lambda: ask(standings.many() - 1, thing))

    def test_the_list_is_the_askers_own(self):
        standings = Standings(mill_river())
        told = standings.followers(15, 0)
        standings.followers(15, 0).append(0)
        self.assertEqual(standings.followers(15, 0), told)

    def test_two_of_one_river_have_nothing_in_common(self):
        river = watched_rivers()[0]
        one, other = Standings(river, {0: 0}), Standings(river, {0: 1})
        self.assertEqual((one.choices()[0], other.choices()[0]), (((0, 0), None), ((1, 0), None)))
        self.assertNotEqual(one.followers(59, 0), other.followers(59, 0))


class Kinds(unittest.TestCase):
    def test_kinds(self):
        for river in watched_rivers():
            standings = Standings(river)
            for told in (weigh(river), standings.weight(), standings.many(), standings.number_of(river.beginning())):
                self.assertIs(type(told), int)
            for told in (standings.choices(), standings.rains(0), standings.followers(0, 0)):
                self.assertIs(type(told), list)
            for told in standings.choices() + standings.rains(river.cloud) + [standings.standing_at(0)]:
                self.assertIs(type(told), tuple)
                self.assertTrue(all(type(part) is not list for part in told))
            self.assertIs(type(standings.breaks(0, 0)), bool)

    def test_a_part_gate_may_be_stuck_at_its_last_setting(self):
        river = River(1, 0, [Basin("a", 0, 4, 0, 1, PartGate([1, 2, 3, 4]))], [])
        self.assertEqual(Standings(river, {0: 3}).choices(), [((3,), None)])


if __name__ == "__main__":
    unittest.main()
