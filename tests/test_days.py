"""Points 4 to 6, 9 and 91 to 95: days on which turns are done, and gates stick and are mended."""

import itertools
import unittest

from things import (
    FAR, Refusing, all_choices, all_rains, all_standings, dry_river, let_choices, light_rivers, mill_river, no_choices,
    no_numbers, no_rains, watched_rivers, wide_river,
)
from weirwatch.days import Days
from weirwatch.errors import Broken, Lost, NoChoice, NoRain, NoStuck, TooMany
from weirwatch.guard import Guard
from weirwatch.holding import Holding
from weirwatch.rivers import Basin, River
from weirwatch.rivertext import read_river
from weirwatch.standings import weigh
from weirwatch.turns import Turn, turned

# A cube may fall in each turn, and the gate lets one or none.
BROOK = "cloud 1 1\nbasin a 0 3 0 1 step 0 1"


def turn_values(turn):
    return (turn.choice, turn.rain, turn.levels, turn.wet, turn.outs, turn.drawn, turn.paid, turn.broken)


def all_told(days):
    """All that can be told of the days, but what is refused."""
    return (days.standing(), days.stuck_now(), [turn_values(turn) for turn in days.log()], days.held())


def started(river, standing):
    """The river with another beginning, so that days can be begun there; the cloud is full."""
    basins = [Basin(basin.name, basin.low, basin.high, level, basin.rain, basin.gate)
              for basin, level in zip(river.basins, standing[0])]
    return River(river.cloud, river.gain, basins, river.towns)


def starts(river):
    """The river with each beginning."""
    return [started(river, standing) for standing in all_standings(river) if standing[1] == river.cloud]


def broken_days():
    """Days of the river that the document shows, behind a turn that breaks its upper basin."""
    river = started(mill_river(), ((4, 4), 2))
    days = Days(river)
    days.turn(((0, 1), None), (1, 1))
    return days


class Begun(unittest.TestCase):
    def test_as_at_its_beginning(self):
        for river in watched_rivers():
            days = Days(river)
            self.assertEqual(days.standing(), river.beginning())
            self.assertEqual((days.stuck_now(), days.log()), ({}, []))
            self.assertIs(days.held(), Holding(river).held(river.beginning()))

    def test_too_many(self):
        for river in (wide_river(), dry_river((13, 11), 6, (4, 1))):
            with self.assertRaises(TooMany) as caught:
                Days(river)
            self.assertEqual(caught.exception.count, weigh(river))

    def test_just_not_too_many(self):
        river = dry_river((10, 10), 4, (4, 2))
        self.assertEqual(weigh(river), 4000)
        self.assertEqual(Days(river).standing(), ((0, 0), 4))
        river = dry_river((9, 9), 4, (4, 3))
        self.assertEqual(weigh(river), 4860)
        with self.assertRaises(TooMany) as caught:
            Days(river)
        self.assertEqual(caught.exception.count, 4860)


class Turns(Refusing):
    def test_by_hand(self):
        days = Days(mill_river())
        turn = days.turn(((1, 0), 0), (1, 0))
        self.assertIs(type(turn), Turn)
        self.assertEqual((turn.outs, turn.drawn, turn.paid, turn.broken), ((2, 0), 1, True, ()))
        self.assertEqual((turn.standing(), days.standing()), (((1, 3), 2), ((1, 3), 2)))
        self.assertEqual(days.log(), [turn])
        other = days.turn(((0, 0), None), (0, 1))
        self.assertEqual((days.standing(), days.log()), (((1, 3), 2), [turn, other]))

    def test_every_turn_from_every_beginning(self):
        for river in [start for river in watched_rivers() for start in starts(river)]:
            for choice, rain in itertools.product(all_choices(river), all_rains(river, river.cloud)):
                days = Days(river)
                told = days.turn(choice, rain)
                alone = turned(river, river.beginning(), choice, rain)
                self.assertEqual(turn_values(told), turn_values(alone))
                self.assertEqual(days.standing(), alone.standing())
                self.assertEqual([turn_values(turn) for turn in days.log()], [turn_values(alone)])

    def test_turns_one_by_one(self):
        many = 0
        for river in watched_rivers():
            days, now, done = Days(river), river.beginning(), []
            for k in range(30):
                choices, rains = all_choices(river), all_rains(river, now[1])
                choice, rain = choices[k * 7 % len(choices)], rains[k * 5 % len(rains)]
                done.append(days.turn(choice, rain))
                self.assertEqual(turn_values(done[-1]), turn_values(turned(river, now, choice, rain)))
                now = done[-1].standing()
                self.assertEqual((days.standing(), days.log()), (now, done))
                if done[-1].broken:
                    break
                many += 1
        self.assertGreater(many, 50)

    def test_no_choice_then_no_rain(self):
        for river in light_rivers():
            days = Days(river)
            before = all_told(days)
            choice, rain = all_choices(river)[-1], all_rains(river, river.cloud)[-1]
            for thing in no_choices(river, choice):
                self.refused(NoChoice, thing, lambda: days.turn(thing, rain))
                self.refused(NoChoice, thing, lambda: days.turn(thing, None))
            for thing in no_rains(river, river.cloud, rain):
                self.refused(NoRain, thing, lambda: days.turn(choice, thing))
            self.assertEqual(all_told(days), before)

    def test_rain_by_what_the_cloud_has_now(self):
        days = Days(read_river("cloud 1 0\nbasin a 0 9 1 1 step 0"))
        days.turn(((0,), None), (1,))
        self.assertEqual(days.standing(), ((2,), 0))
        self.refused(NoRain, wrong := (1,), lambda: days.turn(((0,), None), wrong))
        days.turn(((0,), None), (0,))
        self.assertEqual(len(days.log()), 2)

    def test_choices_that_gates_that_stick_do_not_let_be(self):
        for river in watched_rivers():
            for place in range(len(river.basins)):
                days = Days(river)
                days.stick(place)
                rain = all_rains(river, river.cloud)[0]
                for choice in all_choices(river):
                    if choice in let_choices(river, {place: 0}):
                        other = Days(river)
                        other.stick(place)
                        self.assertEqual(other.turn(choice, rain).choice, choice)
                    else:
                        self.refused(NoChoice, choice, lambda: days.turn(choice, rain))
                        self.refused(NoChoice, choice, lambda: days.turn(choice, None))
                self.assertEqual(days.log(), [])


class Sticking(Refusing):
    def test_at_setting_0_where_there_was_no_turn_yet(self):
        for river in watched_rivers():
            days = Days(river)
            for place in reversed(range(len(river.basins))):
                self.assertIs(days.stick(place), None)
            self.assertEqual(days.stuck_now(), {place: 0 for place in range(len(river.basins))})
            self.assertEqual((days.standing(), days.log()), (river.beginning(), []))

    def test_at_the_setting_of_the_last_turn(self):
        found = set()
        for river in watched_rivers():
            for choice, place in itertools.product(all_choices(river), range(len(river.basins))):
                days = Days(river)
                days.turn(choice, all_rains(river, river.cloud)[0])
                self.assertIs(days.stick(place), None)
                self.assertEqual(days.stuck_now(), {place: choice[0][place]})
                found.add(choice[0][place])
        self.assertEqual(found, {0, 1, 2, 3})

    def test_the_last_turn_counts_alone(self):
        days = Days(mill_river())
        days.turn(((1, 0), None), (1, 0))
        days.turn(((0, 1), None), (0, 1))
        days.stick(0)
        days.stick(1)
        self.assertEqual(days.stuck_now(), {0: 0, 1: 1})

    def test_stays_so_until_mended(self):
        days = Days(mill_river())
        days.turn(((1, 0), None), (1, 0))
        days.stick(0)
        days.turn(((1, 0), None), (1, 0))
        self.assertEqual(days.stuck_now(), {0: 1})
        self.assertIs(days.mend(0), None)
        self.assertEqual(days.stuck_now(), {})
        days.turn(((0, 1), None), (0, 1))
        days.stick(0)
        self.assertEqual(days.stuck_now(), {0: 0})

    def test_mended_and_stuck_again_with_no_turn_between(self):
        days = Days(mill_river())
        days.turn(((1, 0), None), (1, 0))
        for again in range(3):
            days.stick(0)
            self.assertEqual(days.stuck_now(), {0: 1})
            days.mend(0)
            self.assertEqual(days.stuck_now(), {})

    def test_one_is_mended_and_the_other_sticks_on(self):
        days = Days(mill_river())
        days.stick(1)
        days.stick(0)
        days.mend(1)
        self.assertEqual(days.stuck_now(), {0: 0})
        with self.assertRaises(NoChoice):
            days.turn(((1, 1), None), (1, 0))
        days.turn(((0, 1), None), (1, 0))

    def test_behind_a_break(self):
        days = broken_days()
        days.stick(1)
        days.stick(0)
        self.assertEqual(days.stuck_now(), {0: 0, 1: 1})
        self.refused(NoStuck, 1, lambda: days.stick(1))
        days.mend(1)
        self.assertEqual(days.stuck_now(), {0: 0})
        self.refused(NoStuck, 1, lambda: days.mend(1))

    def test_no_number_of_a_basin(self):
        for days in (Days(mill_river()), Days(read_river(BROOK)), broken_days()):
            many = 1 if len(days.standing()[0]) == 1 else 2
            before = all_told(days)
            for thing in no_numbers() + [-1, many, FAR, -FAR]:
                self.refused(NoStuck, thing, lambda: days.stick(thing))
                self.refused(NoStuck, thing, lambda: days.mend(thing))
            self.assertEqual(all_told(days), before)

    def test_what_sticks_already_and_what_does_not(self):
        days = Days(mill_river())
        self.refused(NoStuck, 0, lambda: days.mend(0))
        days.stick(0)
        days.turn(((0, 1), None), (0, 1))
        before = all_told(days)
        self.refused(NoStuck, 0, lambda: days.stick(0))
        self.refused(NoStuck, 1, lambda: days.mend(1))
        self.assertEqual(all_told(days), before)


class Breaks(Refusing):
    def broken(self, act):
        with self.assertRaises(Broken) as caught:
            act()
        return caught.exception.basins

    def test_nothing_is_done_behind_a_break(self):
        days = broken_days()
        self.assertEqual(days.standing(), ((5, 4), 1))
        self.assertEqual(days.log()[-1].broken, (0,))
        before = all_told(days)
        for choice in (((0, 1), None), ((1, 1), 0), None):
            self.assertEqual(self.broken(lambda: days.turn(choice, (0, 0))), (0,))
            self.assertEqual(self.broken(lambda: days.turn(choice, None)), (0,))
            self.assertEqual(self.broken(lambda: days.guarded(choice)), (0,))
        self.assertIs(days.held(), False)
        self.assertEqual(all_told(days), before)

    def test_every_break(self):
        found = set()
        for river in [start for river in watched_rivers() for start in starts(river)]:
            for choice, rain in itertools.product(all_choices(river), all_rains(river, river.cloud)):
                days = Days(river)
                turn = days.turn(choice, rain)
                if turn.broken:
                    found.add(turn.broken)
                    for act in (lambda: days.turn(choice, rain), lambda: days.guarded(choice),
                                lambda: days.turn(None, None), lambda: days.guarded(None)):
                        told = self.broken(act)
                        self.assertEqual((type(told), told), (tuple, turn.broken))
                    self.assertIs(days.held(), False)
                    self.assertEqual((days.standing(), days.log()), (turn.standing(), [turn]))
        self.assertLessEqual({(0,), (1,), (0, 1)}, found)

    def test_the_last_turn_counts_alone(self):
        days = Days(read_river(BROOK))
        for again in range(3):
            days.turn(((0,), None), (1,))
            self.assertEqual(days.guarded(((1,), None)), ((1,), None))
        self.assertEqual(days.turn(((0,), None), (1,)).broken, (0,))
        self.assertEqual(self.broken(lambda: days.turn(((1,), None), (1,))), (0,))
        self.assertEqual(self.broken(lambda: days.guarded(((1,), None))), (0,))
        self.assertIs(days.held(), False)
        self.assertEqual((days.standing(), len(days.log())), (((4,), 1), 4))

    def test_a_mended_gate_brings_nothing_back(self):
        days = broken_days()
        days.stick(0)
        days.mend(0)
        self.assertEqual(self.broken(lambda: days.turn(((1, 1), None), (0, 0))), (0,))
        self.assertIs(days.held(), False)


class Guarding(Refusing):
    def ways(self):
        """Days of each watched river behind a turn and gates that stick, none broken; and the gates that stick."""
        for river in [start for river in watched_rivers() for start in starts(river)[::3]]:
            for choice, rain in itertools.product(all_choices(river), all_rains(river, river.cloud)):
                for many in range(len(river.basins) + 1):
                    days = Days(river)
                    if not days.turn(choice, rain).broken:
                        for place in range(many):
                            days.stick(place)
                        yield river, days, {place: choice[0][place] for place in range(many)}

    def test_given_and_held_by_the_gates_that_stick_now(self):
        kinds = set()
        for river, days, stuck in self.ways():
            holding, now = Holding(river, stuck), days.standing()
            self.assertIs(days.held(), holding.held(now))
            for choice in all_choices(river)[::2]:
                if holding.held(now):
                    self.assertEqual(days.guarded(choice), Guard(holding).given(now, choice))
                else:
                    with self.assertRaises(Lost) as caught:
                        days.guarded(choice)
                    self.assertEqual(caught.exception.turns, holding.turns_left(now))
            self.assertEqual((days.standing(), days.stuck_now(), len(days.log())), (now, stuck, 1))
            kinds.add((len(stuck) > 0, holding.held(now)))
        self.assertEqual(kinds, {(True, True), (True, False), (False, True), (False, False)})

    def test_by_hand(self):
        days = Days(read_river(BROOK))
        self.assertIs(days.held(), True)
        self.assertEqual(days.guarded(((0,), None)), ((0,), None))
        days.stick(0)
        self.assertIs(days.held(), False)
        with self.assertRaises(Lost) as caught:
            days.guarded(((1,), None))
        self.assertEqual(caught.exception.turns, 4)
        days.mend(0)
        self.assertIs(days.held(), True)
        for again in range(3):
            days.turn(((0,), None), (1,))
        self.assertEqual(days.standing(), ((3,), 1))
        self.assertEqual(days.guarded(((0,), None)), ((1,), None))
        days.turn(((1,), None), (1,))
        days.stick(0)
        self.assertIs(days.held(), True)
        self.assertEqual(days.guarded(((0,), None)), ((1,), None))

    def test_no_choice_of_the_river_also_at_a_lost_standing(self):
        for stuck in ((), (0,)):
            days = Days(mill_river())
            for place in stuck:
                days.stick(place)
            self.assertIs(days.held(), stuck == ())
            for thing in no_choices(mill_river(), ((1, 0), 0)):
                self.refused(NoChoice, thing, lambda: days.guarded(thing))

    def test_what_a_gate_that_sticks_does_not_let_be_is_no_refusal(self):
        days = Days(mill_river())
        days.turn(((1, 0), None), (1, 0))
        days.stick(0)
        self.assertIs(days.held(), True)
        for choice in all_choices(mill_river()):
            self.assertIn(days.guarded(choice), let_choices(mill_river(), {0: 1}))

    def test_what_is_given_can_be_done_and_holds(self):
        # Whatever a hand wants, whatever rain falls, and whichever gates stick while the river stays held.
        stuck_turns = 0
        for river in watched_rivers():
            for shift in range(6):
                days = Days(river)
                if not days.held():
                    continue
                choices = all_choices(river)
                for k in range(25):
                    place = (k + shift) % (2 * len(river.basins))
                    if k % 3 == shift % 3 and place < len(river.basins):
                        self.turn_about(days, place)
                    rains = all_rains(river, days.standing()[1])
                    days.turn(days.guarded(choices[k * (shift + 3) % len(choices)]), rains[k * 5 % len(rains)])
                    self.assertIs(days.held(), True)
                    stuck_turns += len(days.stuck_now()) > 0
        self.assertGreater(stuck_turns, 50)

    def turn_about(self, days, place):
        """The gate sticks, or is mended where it did; where the river isn't held with it stuck it is mended at once."""
        if place in days.stuck_now():
            days.mend(place)
            return
        days.stick(place)
        if not days.held():
            days.mend(place)


class FewerAndMore(unittest.TestCase):
    def test_a_gate_that_sticks_holds_no_more_and_a_mended_one_no_less(self):
        fewer = 0
        for river in [start for river in watched_rivers() for start in starts(river)]:
            days = Days(river)
            for place in range(len(river.basins)):
                before = days.held()
                days.stick(place)
                self.assertFalse(days.held() and not before)
                fewer += before and not days.held()
            for place in range(len(river.basins)):
                before = days.held()
                days.mend(place)
                self.assertFalse(before and not days.held())
        self.assertGreater(fewer, 5)


class NothingInCommon(unittest.TestCase):
    def test_what_is_told_is_the_askers_own(self):
        days = Days(mill_river())
        days.turn(((1, 0), None), (1, 0))
        days.stick(0)
        before = all_told(days)
        days.stuck_now().clear()
        days.stuck_now()[1] = 0
        days.log().clear()
        days.log().append(None)
        self.assertEqual(all_told(days), before)
        told = days.stuck_now()
        days.mend(0)
        self.assertEqual((told, days.stuck_now()), ({0: 1}, {}))

    def test_a_log_that_was_told_stays_as_it_was(self):
        days = Days(mill_river())
        log = days.log()
        days.turn(((1, 0), None), (1, 0))
        self.assertEqual((log, len(days.log())), ([], 1))

    def test_two_days_of_one_river(self):
        river = mill_river()
        one, other = Days(river), Days(river)
        one.turn(((1, 0), None), (1, 0))
        one.stick(0)
        self.assertEqual((other.standing(), other.stuck_now(), other.log()), (river.beginning(), {}, []))

    def test_asking_changes_nothing(self):
        days = Days(mill_river())
        days.turn(((1, 0), None), (1, 0))
        before = all_told(days)
        for choice in all_choices(mill_river()):
            days.guarded(choice)
        self.assertEqual(all_told(days), before)


if __name__ == "__main__":
    unittest.main()
