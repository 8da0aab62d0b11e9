"""Points 8 and 9: what is promised over the whole program, on small rivers gone through whole."""

import functools
import itertools
import unittest

from things import (
    all_choices, all_rains, all_standings, ends_in, let_choices, lost_numbers, some_rivers, some_skies, stuck_ways,
    watched_rivers, watched_ways,
)
from weirwatch.days import Days
from weirwatch.errors import NoPromise
from weirwatch.guard import Guard, changes, guarded
from weirwatch.holding import Holding
from weirwatch.promises import are_promises, local_keeper, lone_levels, promises
from weirwatch.rivertext import read_river
from weirwatch.runs import run
from weirwatch.serving import Serving, TurnKeeper
from weirwatch.tables import is_keeper_table, is_serving_table, is_sky_table, is_unserved_table
from weirwatch.turns import paid_by, turned


@functools.cache
def found_ways():
    """Each watched river with each way of stuck gates, with its holding and its serving."""
    holdings = [(river, stuck, Holding(river, stuck)) for river, stuck in watched_ways()]
    return [(river, stuck, holding, Serving(holding)) for river, stuck, holding in holdings]


def ends(river, standing, choice):
    return [end for rain, end in ends_in(river)[standing, choice]]


def pays(river, standing, choice, town):
    return choice[1] == town and paid_by(river, standing, choice)


class Holdings(unittest.TestCase):
    def test_each_standing_is_held_or_lost(self):
        kinds = set()
        for river, stuck, holding, serving in found_ways():
            keeper, sky = holding.keeper_table(), holding.sky_table()
            for standing in all_standings(river):
                self.assertIs(holding.held(standing), standing in keeper)
                self.assertIs(holding.held(standing), standing not in sky)
                self.assertEqual(holding.turns_left(standing), sky[standing][0] if standing in sky else None)
            kinds.add((len(keeper) > 0, len(sky) > 0))
        self.assertEqual(kinds, {(True, True), (True, False), (False, True)})

    def test_each_held_one_comes_with_a_choice_that_holds(self):
        for river, stuck, holding, serving in found_ways():
            keeper = holding.keeper_table()
            for standing, choice in keeper.items():
                self.assertIn(choice, let_choices(river, stuck))
                self.assertLessEqual(set(ends(river, standing, choice)), set(keeper))

    def test_each_lost_one_comes_with_a_rain_for_every_choice(self):
        for river, stuck, holding, serving in found_ways():
            sky = holding.sky_table()
            for standing, (number, rains) in sky.items():
                self.assertEqual(sorted(rains, key=repr), sorted(let_choices(river, stuck), key=repr))
                for choice, rain in rains.items():
                    end = dict(ends_in(river)[standing, choice])[rain]
                    self.assertTrue(end is None or sky[end][0] < number)

    def test_no_sky_breaks_a_basin_in_fewer_turns(self):
        # A keeper of the lost ones: of all choices the one whose worst rain is farthest from a break.
        for river, stuck, holding, serving in found_ways():
            sky = holding.sky_table()
            for standing, (number, rains) in sky.items():
                worst = [
                    min(0 if end is None else sky[end][0] if end in sky else number
                        for end in ends(river, standing, choice))
                    for choice in let_choices(river, stuck)
                ]
                self.assertEqual(max(worst), number - 1)


class Servings(unittest.TestCase):
    def test_each_held_standing_is_served_or_has_a_pair(self):
        for river, stuck, holding, serving in found_ways():
            served, unserved = serving.serving_table(), serving.unserved_table()
            self.assertEqual(sorted(list(served) + list(unserved)), sorted(holding.keeper_table()))
            for standing in all_standings(river):
                self.assertIs(serving.served(standing), standing in served)
                self.assertIs(serving.unserved(standing) is not None, standing in unserved)

    def test_each_served_one_comes_with_the_least_number_for_each_town(self):
        for river, stuck, holding, serving in found_ways():
            table = serving.serving_table()
            for standing, town in itertools.product(table, range(len(river.towns))):
                number, choice = table[standing][town]
                kind = [other for other in let_choices(river, stuck)
                        if all(end in table for end in ends(river, standing, other))]
                worst = {
                    other: 1 if pays(river, standing, other, town) else
                    1 + max(table[end][town][0] for end in ends(river, standing, other))
                    for other in kind
                }
                self.assertEqual((number, worst[choice] <= number), (min(worst.values()), True))

    def test_each_other_one_comes_with_rains_against_all_towns(self):
        for river, stuck, holding, serving in found_ways():
            table = serving.unserved_table()
            for standing, (pair, rains) in table.items():
                self.assertEqual(sorted(rains, key=repr), sorted(let_choices(river, stuck), key=repr))
                for choice, rain in rains.items():
                    end = dict(ends_in(river)[standing, choice])[rain]
                    if end is not None and holding.held(end):
                        is_same = table[end][0] == pair and not pays(river, standing, choice, pair[1])
                        self.assertTrue(table[end][0] < pair or is_same)

    def test_no_set_of_standings_that_serves_lies_elsewhere(self):
        # Each set is tried from which all towns can be paid without leaving it.
        found = set()
        for text in (
            "cloud 1 1\nbasin a 0 3 0 1 step 0 1\ntown x a 2", "cloud 1 0\nbasin a 0 2 1 1 step 0 1\ntown x a 1",
            "cloud 1 1\nbasin a 0 3 0 1 step 0\ntown x a 1\ntown y a 2", "cloud 2 1\nbasin a 1 3 2 1 flap 2 3\ntown x a 1",
            "cloud 0 0\nbasin a 0 1 1 0 step 0 1\nbasin b 0 3 0 0 step 0\ntown x b 1",
        ):
            river = read_river(text)
            for stuck in stuck_ways(river):
                serving = Serving(Holding(river, stuck))
                served = {standing for standing in all_standings(river) if serving.served(standing)}
                self.assertEqual(self.all_serving(river, stuck), served)
                found.add(min(len(served), 1))
        self.assertEqual(found, {0, 1})

    def all_serving(self, river, stuck):
        """All sets together of which each standing can pay each town within the set."""
        together = set()
        for many in range(len(all_standings(river)) + 1):
            for standings in map(frozenset, itertools.combinations(all_standings(river), many)):
                if all(self.can_pay(river, stuck, standings, town) == standings for town in range(len(river.towns))):
                    together |= standings
        return together

    def can_pay(self, river, stuck, standings, town):
        """Those of the standings from which the town can be paid without leaving them."""
        kind = [(standing, choice) for standing in standings for choice in let_choices(river, stuck)
                if standings.issuperset(ends(river, standing, choice))]
        paid = frozenset(standing for standing, choice in kind if pays(river, standing, choice, town))
        while True:
            more = paid | {standing for standing, choice in kind if paid.issuperset(ends(river, standing, choice))}
            if more == paid:
                return paid
            paid = more


class Tables(unittest.TestCase):
    def test_whoever_knows_one_turn_alone_finds_all_tables_right(self):
        for river, stuck, holding, serving in found_ways():
            sky = holding.sky_table()
            self.assertIs(is_keeper_table(river, stuck, holding.keeper_table()), True)
            self.assertIs(is_sky_table(river, stuck, sky), True)
            self.assertIs(is_serving_table(river, stuck, serving.serving_table()), True)
            self.assertIs(is_unserved_table(river, stuck, sky, serving.unserved_table()), True)

    def test_no_standing_can_be_put_into_another_table(self):
        # A lost one is no key of a right keeper's table, and one with a pair none of a right serving table.
        for river, stuck, holding, serving in found_ways():
            keeper, table = holding.keeper_table(), serving.serving_table()
            for standing in list(holding.sky_table())[::4]:
                for choice in let_choices(river, stuck):
                    self.assertIs(is_keeper_table(river, stuck, {**keeper, standing: choice}), False)
            for standing in list(serving.unserved_table())[::4]:
                for choice in let_choices(river, stuck):
                    rows = [(99, choice)] * len(river.towns)
                    self.assertIs(is_serving_table(river, stuck, {**table, standing: rows}), False)


def all_keepers(river, stuck, holding, serving):
    """Keepers of all sorts that can be asked at the standing, each with its name."""
    turn_keeper = TurnKeeper(serving)
    choices = let_choices(river, stuck)
    yield "held", lambda standing, k: holding.choice_for(standing)
    yield "hand", guarded(Guard(holding), lambda standing, k: choices[k * 3 % len(choices)])
    yield "served", lambda standing, k: turn_keeper.tell(standing)


class Cubes(unittest.TestCase):
    def kept(self, standing, turns):
        """Each cube that stood and fell stands, was drawn, or left below."""
        for turn in turns:
            ahead = sum(standing[0]) + sum(turn.rain)
            self.assertEqual(ahead, sum(turn.levels) + turn.drawn + turn.outs[-1])
            standing = turn.standing()

    def test_in_every_turn(self):
        for river in some_rivers() + list(watched_rivers()):
            for standing, choice in itertools.product(all_standings(river), all_choices(river)):
                for rain in all_rains(river, standing[1]):
                    self.kept(standing, [turned(river, standing, choice, rain)])

    def test_in_every_run(self):
        names = []
        for river, stuck, holding, serving in found_ways():
            held = [standing for standing in all_standings(river) if holding.held(standing)]
            for standing, sky in itertools.product(held[::6], some_skies(river)):
                for name, keeper in all_keepers(river, stuck, holding, serving):
                    if name != "served" or serving.served(standing):
                        told = run(river, standing, keeper, sky, 12)
                        self.kept(standing, told.turns)
                        ahead = sum(standing[0]) + told.fallen()
                        self.assertEqual(ahead, sum(told.last()[0]) + told.taken() + told.gone())
                        self.assertEqual(told.word(), "held")
                        names.append(name)
        self.assertGreater(min(names.count(name) for name in ("held", "hand", "served")), 50)

    def test_in_days(self):
        for river in watched_rivers():
            days, choices = Days(river), all_choices(river)
            for k in range(20):
                rains = all_rains(river, days.standing()[1])
                if days.turn(choices[k * 5 % len(choices)], rains[k * 3 % len(rains)]).broken:
                    break
            self.kept(river.beginning(), days.log())


class Hands(unittest.TestCase):
    def test_let_do_each_choice_that_holds_and_no_other(self):
        for river, stuck, holding, serving in found_ways():
            guard, lost = Guard(holding), lost_numbers(river, stuck)
            for standing, choice in itertools.product(all_standings(river), all_choices(river)):
                told = choice in let_choices(river, stuck)
                told = told and not any(end is None or end in lost for end in ends(river, standing, choice))
                self.assertIs(guard.allowed(standing, choice), told)

    def test_what_is_done_differs_in_as_few_places_as_can_be(self):
        for river, stuck, holding, serving in found_ways():
            guard = Guard(holding)
            for standing, choice in itertools.product(holding.keeper_table(), all_choices(river)):
                allowed = [other for other in let_choices(river, stuck) if guard.allowed(standing, other)]
                given = guard.given(standing, choice)
                self.assertIn(given, allowed)
                self.assertEqual(changes(given, choice), min(changes(other, choice) for other in allowed))

    def test_the_same_keeper_and_days_tell_the_same(self):
        for river in watched_rivers():
            for stuck in [{}] + [{place: 0} for place in range(len(river.basins))]:
                holding, days = Holding(river, stuck), Days(river)
                for place in stuck:
                    days.stick(place)
                self.assertIs(days.held(), holding.held(river.beginning()))
                for choice in all_choices(river) if days.held() else ():
                    given = guarded(Guard(holding), lambda standing, k: choice)(river.beginning(), 0)
                    self.assertEqual(days.guarded(choice), given)


class Gates(unittest.TestCase):
    def pairs(self):
        """Each river with gates that stick, all settings and all sets of them, and one gate more that sticks then."""
        for river in watched_rivers():
            places = range(len(river.basins))
            for settings in itertools.product(*[range(basin.gate.settings()) for basin in river.basins]):
                for more in places:
                    for others in itertools.product((False, True), repeat=len(places)):
                        before = {place: settings[place] for place in places if others[place] and place != more}
                        yield river, before, {**before, more: settings[more]}

    def test_where_one_sticks_nothing_more_is_held_or_served(self):
        @functools.cache
        def told(river, stuck):
            holding = Holding(river, dict(stuck))
            return set(holding.keeper_table()), set(Serving(holding).serving_table())

        fewer = 0
        for river, before, after in self.pairs():
            held, served = told(river, tuple(sorted(before.items())))
            still_held, still_served = told(river, tuple(sorted(after.items())))
            # Read from behind it tells that nothing is lost where a gate is mended.
            self.assertLessEqual(still_held, held)
            self.assertLessEqual(still_served, served)
            fewer += still_held < held
        self.assertGreater(fewer, 20)


class LongRivers(unittest.TestCase):
    rivers = watched_rivers() + tuple(some_rivers())

    def promising(self):
        for river in self.rivers:
            try:
                yield river, promises(river)
            except NoPromise:
                pass

    def test_basins_held_alone_hold_the_whole_river(self):
        # What each basin holds by itself is held by the river as a whole, and with the settings found alone.
        found = 0
        for river, row in self.promising():
            holding, keeper = Holding(river), local_keeper(river, row)
            alone = [lone_levels(basin, up, hi) for basin, up, hi in zip(river.basins, [0] + row, row)]
            for standing in all_standings(river):
                if all(level in levels for level, levels in zip(standing[0], alone)):
                    self.assertIs(holding.held(standing), True)
                    self.assertIs(Guard(holding).allowed(standing, keeper(standing, 0)), True)
                    found += 1
        self.assertGreater(found, 50)

    def test_no_promises_are_less_anywhere(self):
        for river, row in self.promising():
            self.assertIs(are_promises(river, row), True)
            for numbers in itertools.product(range(13), repeat=len(river.basins)):
                if any(number < least for number, least in zip(numbers, row)):
                    self.assertIs(are_promises(river, list(numbers)), False)

    def test_where_it_is_refused_there_are_none(self):
        promising = [river for river, row in self.promising()]
        refused = [river for river in self.rivers if river not in promising]
        for river in refused:
            for numbers in itertools.product(range(13), repeat=len(river.basins)):
                self.assertIs(are_promises(river, list(numbers)), False)
        self.assertGreater(len(refused), 5)


if __name__ == "__main__":
    unittest.main()
