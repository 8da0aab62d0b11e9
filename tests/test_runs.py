"""Points 4, 5, 9 and 25 to 27: runs, keepers and skies, and what is refused of them."""

import itertools
import unittest

from things import (
    FAR, Refusing, all_choices, all_rains, all_standings, any_things, least_rain, mill_river, no_numbers, some_rivers,
)
from weirwatch.errors import NoChoice, NoNumber, NoRain, NoStanding
from weirwatch.gates import StepGate
from weirwatch.rivers import Basin, River, Town
from weirwatch.runs import Run, keeper_of, run, sky_of
from weirwatch.turns import Turn, is_rain, turned

IDLE = ((0, 0), None)
NOW = ((2, 2), 2)


def turn_values(turn):
    return (turn.choice, turn.rain, turn.levels, turn.wet, turn.outs, turn.drawn, turn.paid, turn.broken)


def mixed_keeper(river):
    """A keeper that goes through all choices, one behind the other, begun anew in each turn by its standing."""
    choices = all_choices(river)
    return lambda standing, k: choices[(k + sum(standing[0])) % len(choices)]


def mixed_sky(river):
    def sky(standing, choice, k):
        rains = all_rains(river, standing[1])
        return rains[(k + sum(choice[0])) % len(rains)]
    return sky


class Asked:
    """A keeper and a sky that note what they are asked."""

    def __init__(self, choices, rains):
        self.choices, self.rains, self.notes = choices, rains, []

    def keeper(self, standing, k):
        self.notes.append(("keeper", standing, k))
        return self.choices[k]

    def sky(self, standing, choice, k):
        self.notes.append(("sky", standing, choice, k))
        return self.rains[k]


class RunsByHand(unittest.TestCase):
    def test_a_run_that_holds(self):
        asked = Asked([((1, 0), 0), ((0, 1), None), ((1, 0), None)], [(1, 0), (0, 1), (1, 0)])
        told = run(mill_river(), NOW, asked.keeper, asked.sky, 3)
        self.assertEqual([turn.standing() for turn in told.turns], [((1, 3), 2), ((1, 4), 2), ((1, 3), 2)])
        self.assertEqual((told.begin, told.word(), told.last()), (NOW, "held", ((1, 3), 2)))
        self.assertEqual((told.fallen(), told.taken(), told.gone()), (3, 1, 2))
        self.assertEqual(asked.notes, [
            ("keeper", NOW, 0), ("sky", NOW, ((1, 0), 0), 0),
            ("keeper", ((1, 3), 2), 1), ("sky", ((1, 3), 2), ((0, 1), None), 1),
            ("keeper", ((1, 4), 2), 2), ("sky", ((1, 4), 2), ((1, 0), None), 2),
        ])

    def test_a_run_ends_behind_a_break(self):
        asked = Asked([IDLE] * 9, [(1, 0), (1, 1), (0, 0), (1, 0), (1, 0)])
        told = run(mill_river(), NOW, asked.keeper, asked.sky, 9)
        self.assertEqual([turn.levels for turn in told.turns], [(3, 2), (4, 3), (4, 2), (5, 2)])
        self.assertEqual([turn.broken for turn in told.turns], [(), (), (), (0,)])
        self.assertEqual((told.word(), told.last()), ("broken", ((5, 2), 2)))
        self.assertEqual((told.fallen(), told.taken(), told.gone()), (4, 0, 1))
        self.assertEqual(len(asked.notes), 8)

    def test_a_break_in_the_last_turn_and_the_one_that_is_not_made(self):
        for many, word in ((3, "held"), (4, "broken"), (5, "broken")):
            asked = Asked([IDLE] * 9, [(1, 0), (1, 1), (0, 0), (1, 0), (1, 0)])
            told = run(mill_river(), NOW, asked.keeper, asked.sky, many)
            self.assertEqual((told.word(), len(told.turns)), (word, min(many, 4)))

    def test_no_turn(self):
        asked = Asked([], [])
        told = run(mill_river(), ((4, 1), 0), asked.keeper, asked.sky, 0)
        self.assertIs(type(told), Run)
        self.assertEqual((told.begin, told.turns, told.word()), (((4, 1), 0), (), "held"))
        self.assertEqual((told.last(), told.fallen(), told.taken(), told.gone()), (((4, 1), 0), 0, 0, 0))
        self.assertEqual(asked.notes, [])

    def test_two_hundred_turns(self):
        river = River(0, 0, [Basin("a", 0, 2, 2, 0, StepGate([0]))], [])
        told = run(river, ((2,), 0), keeper_of([((0,), None)]), sky_of(river, []), 200)
        self.assertEqual((len(told.turns), told.word(), told.last()), (200, "held", ((2,), 0)))

    def test_what_towns_draw_and_what_goes_out_at_the_end(self):
        basins = [Basin("a", 0, 9, 6, 0, StepGate([1])), Basin("b", 0, 9, 5, 0, StepGate([0, 2]))]
        river = River(0, 0, basins, [Town("x", "b", 3), Town("y", "a", 2)])
        keeper = keeper_of([((0, 1), 0), ((0, 1), 0), ((0, 0), 1)])
        told = run(river, ((6, 5), 0), keeper, sky_of(river, []), 4)
        self.assertEqual([turn.levels for turn in told.turns], [(5, 1), (4, 1), (1, 2), (0, 3)])
        self.assertEqual((told.fallen(), told.taken(), told.gone()), (0, 5, 3))


class EveryRun(unittest.TestCase):
    def runs(self):
        for river in some_rivers():
            for standing in all_standings(river):
                yield river, run(river, standing, mixed_keeper(river), mixed_sky(river), 12)

    def test_each_turn_is_the_one_that_is_told(self):
        words = []
        for river, told in self.runs():
            now = told.begin
            for k, turn in enumerate(told.turns):
                choice = mixed_keeper(river)(now, k)
                self.assertIs(type(turn), Turn)
                alone = turned(river, now, choice, mixed_sky(river)(now, choice, k))
                self.assertEqual(turn_values(turn), turn_values(alone))
                now = turn.standing()
            self.assertEqual(told.last(), now)
            self.assertEqual([turn.broken for turn in told.turns[:-1]], [()] * (len(told.turns) - 1))
            self.assertEqual(told.word(), "broken" if told.turns[-1].broken else "held")
            self.assertEqual(told.word() == "held", told.turns[-1].broken == () and len(told.turns) == 12)
            words.append(told.word())
        self.assertEqual(sorted(set(words)), ["broken", "held"])

    def test_each_cube_is_kept(self):
        for river, told in self.runs():
            ahead = sum(told.begin[0]) + told.fallen()
            self.assertEqual(ahead, sum(told.last()[0]) + told.taken() + told.gone())
            self.assertEqual(told.fallen(), sum(sum(turn.rain) for turn in told.turns))
            self.assertEqual(told.taken(), sum(turn.drawn for turn in told.turns))
            self.assertEqual(told.gone(), sum(turn.outs[len(river.basins) - 1] for turn in told.turns))

    def test_kinds(self):
        for river, told in self.runs():
            self.assertIs(type(told.turns), tuple)
            self.assertEqual([type(number) for number in (told.fallen(), told.taken(), told.gone())], [int] * 3)


class Refused(Refusing):
    def test_no_number_ahead_of_all(self):
        river = mill_river()
        for many in no_numbers() + [-1, 201, FAR, -FAR]:
            for standing in (NOW, None, ((5, 5), 5)):
                asked = Asked([IDLE] * 300, [(1, 0)] * 300)
                self.refused(NoNumber, many, lambda: run(river, standing, asked.keeper, asked.sky, many))
                self.assertEqual(asked.notes, [])

    def test_no_standing(self):
        river = mill_river()
        wrong = [((5, 2), 2), ((2, 0), 2), ((2, 2), 3), ([2, 2], 2), [(2, 2), 2], ((2, 2, 2), 2), ((2, 2), True)]
        for standing in wrong + any_things():
            for many in (0, 1, 200):
                asked = Asked([None], [None])
                self.refused(NoStanding, standing, lambda: run(river, standing, asked.keeper, asked.sky, many))
                self.assertEqual(asked.notes, [])

    def test_no_choice_in_whatever_turn(self):
        wrong = [((0, 2), None), ((0, 0), 1), ((0, 0), -1), [(0, 0), None], ([0, 0], None), ((0, 0),), ((0, True), None)]
        for choice in wrong + any_things():
            for k in range(3):
                asked = Asked([IDLE] * k + [choice], [(1, 0), (0, 1)] + ["no rain"])
                self.refused(NoChoice, choice, lambda: run(mill_river(), ((0, 1), 2), asked.keeper, asked.sky, 5))
                self.assertEqual([note[0] for note in asked.notes], ["keeper", "sky"] * k + ["keeper"])

    def test_no_rain_in_whatever_turn(self):
        wrong = [(0, 0), (2, 0), (1, -1), [1, 0], (1,), (1, 0, 0), (1, False), (True, 0), "10"]
        for rain in wrong + any_things():
            for k in range(3):
                asked = Asked([IDLE] * 5, [(1, 0)] * k + [rain])
                self.refused(NoRain, rain, lambda: run(mill_river(), ((0, 1), 2), asked.keeper, asked.sky, 5))
                self.assertEqual([note[0] for note in asked.notes], ["keeper", "sky"] * (k + 1))

    def test_nothing_is_asked_behind_the_turns(self):
        asked = Asked([IDLE] * 2 + [None], [(1, 0)] * 2 + [None])
        self.assertEqual(len(run(mill_river(), ((0, 1), 2), asked.keeper, asked.sky, 2).turns), 2)

    def test_what_a_keeper_refuses_goes_through(self):
        def keeper(standing, k):
            raise NoStanding("its own")
        with self.assertRaises(NoStanding) as caught:
            run(mill_river(), NOW, keeper, sky_of(mill_river(), []), 1)
        self.assertEqual(caught.exception.thing, "its own")


class Keepers(Refusing):
    def test_tells_them_in_turn_and_then_the_last(self):
        choices = [((0, 0), None), ((1, 0), 0), ((1, 1), None)]
        for many in (1, 2, 3):
            keeper = keeper_of(choices[:many])
            for k in list(range(6)) + [199, 200]:
                self.assertEqual(keeper(NOW, k), choices[min(k, many - 1)])

    def test_goes_by_the_number_of_the_turn_alone(self):
        keeper = keeper_of(["a", "b", "c"])
        for k, told in ((2, "c"), (0, "a"), (2, "c"), (1, "b"), (0, "a"), (9, "c"), (1, "b")):
            for standing in (NOW, ((0, 1), 0)):
                self.assertEqual(keeper(standing, k), told)

    def test_things_in_it_are_not_looked_at(self):
        things = any_things()
        keeper = keeper_of(things)
        for k, thing in enumerate(things):
            self.assertIs(keeper(NOW, k), thing)
        wrong = [[0, 0], None]
        self.refused(NoChoice, wrong, lambda: run(mill_river(), NOW, keeper_of([wrong]), sky_of(mill_river(), []), 1))

    def test_what_is_done_to_the_list_later(self):
        choices = [((0, 0), None), ((1, 0), 0)]
        keeper, other = keeper_of(choices), keeper_of(choices)
        self.assertEqual(choices, [((0, 0), None), ((1, 0), 0)])
        choices[0] = None
        choices.append("more")
        self.assertEqual([keeper(NOW, k) for k in range(4)], [((0, 0), None)] + [((1, 0), 0)] * 3)
        choices.clear()
        self.assertEqual([other(NOW, k) for k in range(4)], [((0, 0), None)] + [((1, 0), 0)] * 3)

    def test_refused(self):
        things = [thing for thing in any_things() if not isinstance(thing, list) or thing == []]
        for thing in things + [(((0, 0), None),), ((0, 0), None), {0: IDLE}, [], "idle"]:
            self.refused(NoChoice, thing, lambda: keeper_of(thing))


def sky_by_cubes(river, wet, wanted):
    """The rain that the document asks for, cube by cube."""
    rain, left = [0] * len(river.basins), wet
    for place, basin in enumerate(river.basins):
        while rain[place] < wanted[place] and rain[place] < basin.rain and left > 0:
            rain[place] += 1
            left -= 1
    for place, basin in enumerate(river.basins):
        while sum(rain) < least_rain(river, wet) and rain[place] < basin.rain:
            rain[place] += 1
    return tuple(rain)


class Skies(unittest.TestCase):
    def river(self, cloud, gain, rains):
        return River(cloud, gain, [Basin(name, 0, 12, 0, rain, StepGate([0])) for name, rain in zip("abc", rains)], [])

    def test_by_hand(self):
        rows = (
            # the cloud and its gain, the most that may fall, wet, the wanted rain, and what falls
            (12, 0, (2, 3, 1), 12, (1, 1, 1), (1, 1, 1)), (12, 0, (2, 3, 1), 12, (9, 9, 9), (2, 3, 1)),
            (12, 0, (2, 3, 1), 4, (9, 9, 9), (2, 2, 0)), (12, 0, (2, 3, 1), 4, (0, 9, 9), (0, 3, 1)),
            (12, 0, (2, 3, 1), 0, (1, 1, 1), (0, 0, 0)), (12, 0, (2, 3, 1), 12, (0, 0, 0), (0, 0, 0)),
            (12, 4, (2, 3, 1), 12, (0, 0, 0), (2, 2, 0)), (12, 4, (2, 3, 1), 12, (0, 1, 1), (2, 1, 1)),
            (12, 4, (2, 3, 1), 12, (1, 1, 0), (2, 2, 0)), (12, 5, (2, 3, 1), 12, (0, 0, 1), (2, 2, 1)),
            (12, 4, (2, 3, 1), 10, (0, 0, 0), (2, 0, 0)), (12, 4, (2, 3, 1), 9, (0, 0, 0), (1, 0, 0)),
            (12, 9, (2, 3, 1), 12, (0, 0, 0), (2, 3, 1)), (2, 2, (0, 0, 6), 2, (FAR, FAR, 0), (0, 0, 2)),
            (3, 3, (2, 2, 2), 3, (0, 0, 2), (1, 0, 2)), (12, 4, (2, 3, 1), 12, (2, 2, 1), (2, 2, 1)),
        )
        for cloud, gain, rains, wet, wanted, falls in rows:
            sky = sky_of(self.river(cloud, gain, rains), [wanted])
            self.assertEqual(sky(((0, 0, 0), wet), ((0, 0, 0), None), 0), falls)

    def test_every_wet_and_many_rows(self):
        for river in some_rivers():
            for wanted in itertools.product((0, 1, 2, 5, FAR), repeat=len(river.basins)):
                sky = sky_of(river, [wanted])
                for wet in range(river.cloud + 1):
                    standing = (river.beginning()[0], wet)
                    told = sky(standing, all_choices(river)[0], 0)
                    self.assertIs(type(told), tuple)
                    self.assertEqual(told, sky_by_cubes(river, wet, wanted))
                    self.assertIs(is_rain(river, standing, told), True)

    def test_noughts_behind_the_list(self):
        river = self.river(12, 3, (2, 2, 2))
        choice = ((0, 0, 0), None)
        for rains in ([], [(1, 0, 2)], [(1, 0, 2), (0, 1, 0)]):
            sky = sky_of(river, rains)
            for k in list(range(5)) + [199]:
                wanted = rains[k] if k < len(rains) else (0, 0, 0)
                for wet in range(13):
                    self.assertEqual(sky(((0, 0, 0), wet), choice, k), sky_by_cubes(river, wet, wanted))

    def test_goes_by_the_number_of_the_turn_and_the_standing_alone(self):
        river = self.river(12, 0, (2, 2, 2))
        sky = sky_of(river, [(1, 0, 0), (0, 2, 0), (0, 0, 1)])
        for k, told in ((2, (0, 0, 1)), (0, (1, 0, 0)), (3, (0, 0, 0)), (1, (0, 2, 0)), (0, (1, 0, 0))):
            self.assertEqual(sky(((0, 0, 0), 12), ((0, 0, 0), None), k), told)

    def test_what_is_done_to_the_list_later(self):
        river = self.river(12, 0, (2, 2, 2))
        rains = [(1, 0, 0), (0, 2, 0)]
        sky = sky_of(river, rains)
        self.assertEqual(rains, [(1, 0, 0), (0, 2, 0)])
        rains[0] = (2, 2, 2)
        rains.append((1, 1, 1))
        told = [sky(((0, 0, 0), 12), ((0, 0, 0), None), k) for k in range(4)]
        self.assertEqual(told, [(1, 0, 0), (0, 2, 0), (0, 0, 0), (0, 0, 0)])

    def test_runs_by_such_skies_are_never_refused(self):
        for river in some_rivers():
            rows = [(6,) * len(river.basins), (0,) * len(river.basins), (1,) * len(river.basins)]
            for standing in all_standings(river):
                told = run(river, standing, mixed_keeper(river), sky_of(river, rows * 3), 20)
                self.assertTrue(told.word() in ("held", "broken"))


if __name__ == "__main__":
    unittest.main()
