"""Points 4 to 9 and 51 to 58: which standings are served, and by what choices, rains and keeper."""

import functools
import itertools
import unittest

from things import (
    FAR, Refusing, all_standings, ends_in, let_choices, light_rivers, mill_river, no_choices, no_numbers, no_standings,
    some_skies, stuck_ways, watched_rivers, watched_ways,
)
from weirwatch.errors import Lost, NoChoice, NoNumber, NoStanding, NotServed
from weirwatch.holding import Holding
from weirwatch.rivertext import read_river
from weirwatch.runs import run
from weirwatch.serving import Serving, TurnKeeper
from weirwatch.turns import paid_by


class Rounds:
    """The served standings and the pairs of all others, found with sets of standings, as the document tells."""

    def __init__(self, river, stuck):
        self.river, self.choices = river, let_choices(river, stuck)
        self.holding = Holding(river, stuck)
        self.towns = range(len(river.towns))
        self.pairs, self.kept = {}, {standing for standing in all_standings(river) if self.holding.held(standing)}
        for number in itertools.count(1):
            self.numbers = [self.numbers_for(town) for town in self.towns]
            taken = {}
            for standing in self.kept:
                lacked = [town for town in self.towns if standing not in self.numbers[town]]
                if lacked:
                    taken[standing] = (number, min(lacked))
            if not taken:
                break
            self.kept = self.kept - set(taken)
            self.pairs.update(taken)

    def ends(self, standing, choice):
        return [end for rain, end in ends_in(self.river)[standing, choice]]

    def kind(self, standing):
        return [choice for choice in self.choices if all(end in self.kept for end in self.ends(standing, choice))]

    def pays(self, standing, choice, town):
        return choice[1] == town and paid_by(self.river, standing, choice)

    def numbers_for(self, town):
        kind = {standing: self.kind(standing) for standing in self.kept}
        numbers = {standing: 1 for standing in self.kept if any(self.pays(standing, c, town) for c in kind[standing])}
        for number in itertools.count(2):
            more = {
                standing: number for standing in self.kept - set(numbers)
                if any(all(end in numbers for end in self.ends(standing, choice)) for choice in kind[standing])
            }
            if not more:
                return numbers
            numbers.update(more)

    def choice(self, standing, town):
        numbers = self.numbers[town]
        for choice in self.kind(standing):
            nearer = all(numbers[end] < numbers[standing] for end in self.ends(standing, choice))
            if nearer or self.pays(standing, choice, town):
                return choice

    def rain(self, standing, choice):
        pair = self.pairs[standing]
        paid = self.pays(standing, choice, pair[1])
        for rain, end in ends_in(self.river)[standing, choice]:
            if end is None or not self.holding.held(end):
                return rain
            if end in self.pairs and (self.pairs[end] < pair or self.pairs[end] == pair and not paid):
                return rain


@functools.cache
def served_ways():
    """Each watched river with each way of stuck gates: the river, what is to be told, and what tells it."""
    rounds = [Rounds(river, stuck) for river, stuck in watched_ways()]
    return [(told.river, told, Serving(told.holding)) for told in rounds]


class ByHand(unittest.TestCase):
    def test_a_town_that_waits_for_rain(self):
        # Each turn in which the cloud is full brings a cube at least; the town wants two.
        river = read_river("cloud 1 1\nbasin a 0 2 0 1 step 0\ntown x a 2")
        serving = Serving(Holding(river))
        self.assertEqual([serving.turns_to(((level,), 1), 0) for level in range(3)], [3, 2, 1])
        self.assertEqual([serving.turns_to(((level,), 0), 0) for level in range(3)], [4, 3, 1])
        self.assertEqual(serving.serve(((2,), 1), 0), ((0,), 0))
        self.assertEqual(serving.serve(((1,), 1), 0), ((0,), None))
        self.assertEqual(serving.serving_table()[((0,), 1)], [(3, ((0,), None))])
        self.assertEqual(serving.unserved_table(), {})

    def test_a_town_that_the_sky_lets_wait(self):
        # No cube need ever fall: so the town is paid once, at most, and then never again.
        river = read_river("cloud 1 0\nbasin a 0 1 1 1 step 0 1\ntown x a 1")
        holding = Holding(river)
        serving = Serving(holding)
        pairs = {standing: serving.unserved(standing) for standing in all_standings(river)}
        self.assertEqual(holding.held_many(), 4)
        self.assertEqual(pairs, {((0,), 0): (1, 0), ((0,), 1): (1, 0), ((1,), 0): (2, 0), ((1,), 1): (2, 0)})
        self.assertEqual(serving.rain_against(((1,), 1), ((0,), 0)), (0,))
        self.assertEqual(serving.rain_against(((0,), 1), ((0,), 0)), (0,))
        self.assertEqual([serving.served(standing) for standing in pairs], [False] * 4)
        self.assertEqual(serving.serving_table(), {})

    def test_two_towns_of_which_one_can_not_be_paid(self):
        river = read_river("cloud 1 1\nbasin a 0 2 0 1 step 0 1\ntown x a 1\ntown y a 3")
        serving = Serving(Holding(river))
        self.assertEqual({serving.unserved(standing) for standing in all_standings(river)}, {(1, 1)})
        river = read_river("cloud 1 1\nbasin a 0 2 0 1 step 0 1\ntown x a 3\ntown y a 4")
        serving = Serving(Holding(river))
        self.assertEqual({serving.unserved(standing) for standing in all_standings(river)}, {(1, 0)})

    def test_a_choice_that_only_pays_another_town_is_no_payment(self):
        river = read_river("cloud 1 1\nbasin a 0 2 0 1 step 0\ntown x a 1\ntown y a 2")
        serving = Serving(Holding(river))
        self.assertEqual((serving.turns_to(((1,), 1), 0), serving.turns_to(((1,), 1), 1)), (1, 2))
        self.assertEqual(serving.serve(((2,), 1), 0), ((0,), 0))
        self.assertEqual(serving.serve(((2,), 1), 1), ((0,), 1))

    def test_its_holding(self):
        holding = Holding(mill_river())
        self.assertIs(Serving(holding).holding, holding)


class EveryStanding(unittest.TestCase):
    def test_served_and_pairs(self):
        kinds, pairs = set(), set()
        for river, told, serving in served_ways():
            for standing in all_standings(river):
                self.assertIs(serving.served(standing), standing in told.kept)
                self.assertEqual(serving.unserved(standing), told.pairs.get(standing))
                kinds.add((told.holding.held(standing), serving.served(standing)))
            pairs |= set(told.pairs.values())
        self.assertEqual(kinds, {(True, True), (True, False), (False, False)})
        self.assertLessEqual({(n, town) for n in range(1, 6) for town in (0, 1)}, pairs)

    def test_numbers(self):
        found = set()
        for river, told, serving in served_ways():
            for town, standing in itertools.product(told.towns, all_standings(river)):
                number = told.numbers[town].get(standing)
                self.assertEqual(serving.turns_to(standing, town), number)
                self.assertEqual(number is None, not serving.served(standing))
                found.add((town, number))
        self.assertLessEqual({(town, number) for town in range(3) for number in range(1, 6)}, found)

    def test_choices(self):
        for river, told, serving in served_ways():
            for town, standing in itertools.product(told.towns, all_standings(river)):
                choice = told.choice(standing, town) if standing in told.kept else None
                self.assertEqual(serving.serve(standing, town), choice)
                self.assertEqual(choice is None, not serving.served(standing))

    def test_rains(self):
        for river, told, serving in served_ways():
            for standing, choice in itertools.product(all_standings(river), told.choices):
                rain = told.rain(standing, choice) if standing in told.pairs else None
                self.assertEqual(serving.rain_against(standing, choice), rain)
                self.assertEqual(rain is None, standing not in told.pairs)

    def test_tables(self):
        for river, told, serving in served_ways():
            self.assertEqual(serving.serving_table(), {
                standing: [(told.numbers[town][standing], told.choice(standing, town)) for town in told.towns]
                for standing in told.kept
            })
            self.assertEqual(serving.unserved_table(), {
                standing: (pair, {choice: told.rain(standing, choice) for choice in told.choices})
                for standing, pair in told.pairs.items()
            })

    def test_kinds(self):
        for river, told, serving in served_ways():
            for rows in serving.serving_table().values():
                self.assertIs(type(rows), list)
                for row in rows:
                    self.assertEqual([type(row), type(row[0]), type(row[1])], [tuple, int, tuple])
            for row in serving.unserved_table().values():
                self.assertEqual([type(row), type(row[0]), type(row[1])], [tuple, tuple, dict])
            self.assertIs(type(serving.served(river.beginning())), bool)

    def test_without_towns_all_held_ones_are_served(self):
        rivers = [river for river in watched_rivers() if river.towns == ()]
        self.assertGreater(len(rivers), 1)
        for river in rivers:
            for stuck in stuck_ways(river):
                holding = Holding(river, stuck)
                serving = Serving(holding)
                self.assertEqual(serving.serving_table(), {standing: [] for standing in holding.keeper_table()})
                self.assertEqual(serving.unserved_table(), {})
                self.assertEqual([serving.unserved(standing) for standing in all_standings(river)],
                                 [None] * len(all_standings(river)))


class Whole(unittest.TestCase):
    def test_each_number_falls_until_its_town_is_paid(self):
        for river, told, serving in served_ways():
            table = serving.serving_table()
            for standing, town in itertools.product(table, told.towns):
                number, choice = table[standing][town]
                ends = told.ends(standing, choice)
                self.assertLessEqual(set(ends), set(table))
                if not told.pays(standing, choice, town):
                    self.assertTrue(all(table[end][town][0] < number for end in ends))

    def test_no_number_can_be_less(self):
        for river, told, serving in served_ways():
            table = serving.serving_table()
            for standing, town in itertools.product(table, told.towns):
                worst = [
                    0 if told.pays(standing, choice, town) else max(table[end][town][0] for end in told.ends(standing, choice))
                    for choice in told.kind(standing)
                ]
                self.assertEqual(min(worst) + 1, table[standing][town][0])

    def test_no_keeper_pays_all_towns_elsewhere(self):
        for river, told, serving in served_ways():
            table = serving.unserved_table()
            for standing, (pair, rains) in table.items():
                for choice, rain in rains.items():
                    end = dict(ends_in(river)[standing, choice])[rain]
                    if end is not None and told.holding.held(end):
                        self.assertLessEqual(table[end][0], pair)
                        self.assertTrue(table[end][0] < pair or not told.pays(standing, choice, pair[1]))

    def test_where_gates_stick_no_more_is_served(self):
        fewer = 0
        for river in watched_rivers():
            free = Serving(Holding(river))
            for stuck in stuck_ways(river):
                serving = Serving(Holding(river, stuck))
                for standing in all_standings(river):
                    self.assertFalse(serving.served(standing) and not free.served(standing))
                    fewer += free.served(standing) and not serving.served(standing)
                    for town in range(len(river.towns)) if serving.served(standing) else ():
                        self.assertGreaterEqual(serving.turns_to(standing, town), free.turns_to(standing, town))
        self.assertGreater(fewer, 50)


class InTurn(Refusing):
    def test_tells_what_is_told_for_the_town_that_it_waits_for(self):
        for river, told, serving in served_ways():
            for standing, town in itertools.product(told.kept, told.towns):
                keeper = TurnKeeper(serving)
                keeper.waiting = town
                choice = keeper.tell(standing)
                self.assertEqual(choice, told.choice(standing, town))
                after = (town + 1) % len(river.towns) if told.pays(standing, choice, town) else town
                self.assertEqual(keeper.waiting, after)

    def test_without_towns(self):
        for river in (river for river in watched_rivers() if river.towns == ()):
            holding = Holding(river)
            keeper = TurnKeeper(Serving(holding))
            for standing, choice in holding.keeper_table().items():
                self.assertEqual((keeper.tell(standing), keeper.waiting), (choice, 0))

    def test_by_hand(self):
        river = read_river("cloud 1 1\nbasin a 0 2 0 1 step 0\ntown x a 1\ntown y a 2")
        keeper = TurnKeeper(Serving(Holding(river)))
        self.assertEqual(keeper.waiting, 0)
        rows = (((0,), 1), None, 0), (((1,), 1), 0, 1), (((1,), 0), None, 1), (((1,), 1), None, 1), (((2,), 1), 1, 0)
        for standing, town, waiting in rows:
            self.assertEqual(keeper.tell(standing), ((0,), town))
            self.assertEqual(keeper.waiting, waiting)

    def check_run(self, river, serving, standing, sky):
        """No basin is broken, each town is paid in turn, and none is waited for in more turns than told."""
        keeper = TurnKeeper(serving)
        told = run(river, standing, lambda now, k: keeper.tell(now), sky, 40)
        self.assertEqual((told.word(), len(told.turns)), ("held", 40))
        now, waiting, left, paid = standing, 0, None, 0
        for turn in told.turns:
            left = serving.turns_to(now, waiting) if left is None else left
            left -= 1
            if turn.paid and turn.choice[1] == waiting:
                waiting, left, paid = (waiting + 1) % len(river.towns), None, paid + 1
            self.assertTrue(left is None or left > 0)
            now = turn.standing()
        self.assertEqual(keeper.waiting, waiting)
        return paid

    def test_runs_from_served_standings(self):
        paid = []
        for river, told, serving in served_ways():
            if river.towns:
                for standing, sky in itertools.product(sorted(told.kept)[::3], some_skies(river)):
                    paid.append(self.check_run(river, serving, standing, sky))
        self.assertGreater(len(paid), 100)
        self.assertGreaterEqual(min(paid), 4)

    def test_refused_at_a_lost_standing(self):
        found = 0
        for river, told, serving in served_ways():
            keeper = TurnKeeper(serving)
            for standing in told.holding.sky_table():
                with self.assertRaises(Lost) as caught:
                    keeper.tell(standing)
                self.assertEqual(caught.exception.turns, told.holding.turns_left(standing))
                self.assertEqual(keeper.waiting, 0)
                found += 1
        self.assertGreater(found, 50)

    def test_refused_where_it_is_not_served(self):
        for river, told, serving in served_ways():
            keeper = TurnKeeper(serving)
            for standing, pair in told.pairs.items():
                with self.assertRaises(NotServed) as caught:
                    keeper.tell(standing)
                self.assertEqual(caught.exception.found, pair)
                self.assertEqual(keeper.waiting, 0)

    def test_refused_of_what_is_no_standing_and_waits_as_before(self):
        for river in light_rivers():
            keeper = TurnKeeper(Serving(Holding(river)))
            for thing in no_standings(river, river.beginning()):
                self.refused(NoStanding, thing, lambda: keeper.tell(thing))
                self.assertEqual(keeper.waiting, 0)
        river = watched_rivers()[7]
        keeper = TurnKeeper(Serving(Holding(river)))
        keeper.tell(((4,), 2))
        self.assertEqual(keeper.waiting, 1)
        for thing in (None, ((5,), 2), ((2,), 0)):
            with self.assertRaises((NoStanding, Lost)):
                keeper.tell(thing)
            self.assertEqual(keeper.waiting, 1)

    def test_two_keepers_have_nothing_in_common(self):
        river = read_river("cloud 1 1\nbasin a 0 2 0 1 step 0\ntown x a 1\ntown y a 2")
        serving = Serving(Holding(river))
        one, other = TurnKeeper(serving), TurnKeeper(serving)
        one.tell(((1,), 1))
        self.assertEqual((one.waiting, other.waiting), (1, 0))
        self.assertEqual(other.tell(((2,), 1)), ((0,), 0))


class Refused(Refusing):
    def servings(self):
        for river in light_rivers() + list(watched_rivers()[8:10]):
            for stuck in (None, {0: 0}):
                yield river, stuck, Serving(Holding(river, stuck))

    def test_no_standing_ahead_of_all(self):
        for river, stuck, serving in self.servings():
            for thing in no_standings(river, river.beginning()):
                for ask in (serving.served, serving.unserved):
                    self.refused(NoStanding, thing, lambda: ask(thing))
                for ask in (serving.turns_to, serving.serve, serving.rain_against):
                    self.refused(NoStanding, thing, lambda: ask(thing, None))
                    self.refused(NoStanding, thing, lambda: ask(thing, 0))

    def test_no_number_of_a_town(self):
        for river, stuck, serving in self.servings():
            for standing in (all_standings(river)[0], all_standings(river)[-1]):
                for thing in no_numbers() + [-1, len(river.towns), FAR, -FAR]:
                    self.refused(NoNumber, thing, lambda: serving.turns_to(standing, thing))
                    self.refused(NoNumber, thing, lambda: serving.serve(standing, thing))

    def test_no_choice(self):
        for river, stuck, serving in self.servings():
            for standing in (all_standings(river)[0], all_standings(river)[-1]):
                for thing in no_choices(river, let_choices(river, None)[-1]):
                    self.refused(NoChoice, thing, lambda: serving.rain_against(standing, thing))

    def test_a_choice_that_stuck_gates_do_not_let_be(self):
        for river, told, serving in served_ways():
            for standing in (all_standings(river)[0], all_standings(river)[-1]):
                for choice in let_choices(river, None):
                    if choice not in told.choices:
                        self.refused(NoChoice, choice, lambda: serving.rain_against(standing, choice))


class NothingIsChanged(unittest.TestCase):
    def test_what_is_told_is_the_askers_own(self):
        serving = Serving(Holding(watched_rivers()[4]))
        before = (serving.serving_table(), serving.unserved_table())
        for rows in serving.serving_table().values():
            rows.clear()
        for pair, rains in serving.unserved_table().values():
            rains.clear()
        serving.serving_table().clear()
        serving.unserved_table().clear()
        self.assertNotEqual(before, ({}, {}))
        self.assertEqual((serving.serving_table(), serving.unserved_table()), before)

    def test_the_holding_stays_as_it_was(self):
        for river in watched_rivers():
            holding = Holding(river)
            before = (holding.keeper_table(), holding.sky_table(), holding.held_many())
            Serving(holding)
            self.assertEqual((holding.keeper_table(), holding.sky_table(), holding.held_many()), before)


if __name__ == "__main__":
    unittest.main()
