"""Points 4 to 6, 9 and 71 to 75: what a hand is let do, what is given in its place, and runs with a hand."""

import itertools
import unittest

from things import (
    Refusing, all_choices, all_standings, ends_in, let_choices, light_rivers, lost_numbers, mill_river, no_choices,
    no_standings, some_skies, watched_rivers, watched_ways,
)
from weirwatch.errors import Lost, NoChoice, NoStanding
from weirwatch.guard import Guard, changes, guarded
from weirwatch.holding import Holding
from weirwatch.rivertext import read_river
from weirwatch.runs import run

# A cube may fall in each turn, and the gate lets one or none.
BROOK = "cloud 1 1\nbasin a 0 3 0 1 step 0 1"


def changed(one, other):
    """The places in which two choices differ, each told by a name."""
    gates = [place for place in range(len(one[0])) if one[0][place] != other[0][place]]
    return gates + (["town"] if one[1] != other[1] else [])


def good_choices(river, stuck, lost, standing):
    """The choices behind which, whatever rain falls, no basin is broken and nothing lost comes."""
    return [
        choice for choice in let_choices(river, stuck)
        if not any(end is None or end in lost for rain, end in ends_in(river)[standing, choice])
    ]


def guarded_ways():
    """Each watched river with each way of stuck gates: what a guard is made of, and what is to be told by it."""
    for river, stuck in watched_ways():
        yield river, stuck, lost_numbers(river, stuck), Guard(Holding(river, stuck))


def some_hands(river):
    """Hands that want now this and now that, many of them what would break a basin."""
    choices = all_choices(river)
    return [
        lambda standing, k: choices[0], lambda standing, k: choices[-1], lambda standing, k: choices[k % len(choices)],
        lambda standing, k: choices[(k * k + sum(standing[0])) % len(choices)],
    ]


class Changes(unittest.TestCase):
    def test_by_hand(self):
        self.assertEqual(changes(((0, 0), None), ((0, 0), None)), 0)
        self.assertEqual(changes(((0, 1), None), ((0, 0), None)), 1)
        self.assertEqual(changes(((3, 0), None), ((0, 0), None)), 1)
        self.assertEqual(changes(((1, 0), None), ((0, 1), None)), 2)
        self.assertEqual(changes(((1, 0), 0), ((1, 0), None)), 1)
        self.assertEqual(changes(((1, 0), None), ((1, 0), 0)), 1)
        self.assertEqual(changes(((1, 0), 0), ((1, 0), 2)), 1)
        self.assertEqual(changes(((1, 0), 2), ((1, 0), 2)), 0)
        self.assertEqual(changes(((1, 2, 3), 1), ((0, 2, 1), 2)), 3)
        self.assertEqual(changes(((0,) * 16, None), ((1,) * 16, 0)), 17)

    def test_all_choices(self):
        for river in watched_rivers():
            for one, other in itertools.product(all_choices(river), repeat=2):
                told = changes(one, other)
                self.assertIs(type(told), int)
                self.assertEqual(told, len(changed(one, other)))
                self.assertEqual(told, changes(other, one))
                self.assertEqual(told == 0, one == other)


class ByHand(Refusing):
    def test_a_gate_that_has_to_be_opened(self):
        guard = Guard(Holding(read_river(BROOK)))
        self.assertIs(guard.allowed(((2,), 1), ((0,), None)), True)
        self.assertIs(guard.allowed(((3,), 1), ((0,), None)), False)
        self.assertIs(guard.allowed(((3,), 1), ((1,), None)), True)
        self.assertEqual(guard.given(((2,), 1), ((0,), None)), ((0,), None))
        self.assertEqual(guard.given(((3,), 1), ((0,), None)), ((1,), None))

    def test_its_holding(self):
        holding = Holding(mill_river())
        self.assertIs(Guard(holding).holding, holding)

    def test_gates_that_stick(self):
        river = read_river(BROOK)
        shut, let = Guard(Holding(river, {0: 0})), Guard(Holding(river, {0: 1}))
        for choice in all_choices(river):
            self.assertIs(shut.allowed(((0,), 0), choice), False)
            self.assertEqual(let.given(((2,), 1), choice), ((1,), None))
            with self.assertRaises(Lost) as caught:
                shut.given(((0,), 1), choice)
            self.assertEqual(caught.exception.turns, 4)
        self.assertIs(let.allowed(((2,), 1), ((0,), None)), False)
        self.assertIs(let.allowed(((2,), 1), ((1,), None)), True)

    def test_of_several_the_first(self):
        # What the upper gate lets finds no room below: several good choices are one change away.
        river = read_river("cloud 0 0\nbasin a 0 1 1 0 step 0 1\nbasin b 0 1 1 0 step 0 1 2\ntown x b 1\ntown y a 1")
        guard = Guard(Holding(river))
        self.assertEqual(guard.given(((1, 1), 0), ((1, 0), None)), ((0, 0), None))
        self.assertEqual(guard.given(((1, 1), 0), ((1, 0), 1)), ((1, 0), 1))
        self.assertEqual(guard.given(((1, 1), 0), ((1, 1), None)), ((1, 1), None))

    def test_a_town_counts_as_a_gate_does(self):
        # A cube falls in each turn on a full basin: the gate is opened, or the town is served, or both.
        river = read_river("cloud 1 1\nbasin a 0 1 1 1 step 0 1\ntown x a 1")
        guard = Guard(Holding(river))
        self.assertEqual(Holding(river).good_choices(((1,), 1)), [((0,), 0), ((1,), None), ((1,), 0)])
        self.assertEqual(guard.given(((1,), 1), ((0,), None)), ((0,), 0))


class EveryStanding(unittest.TestCase):
    def test_allowed(self):
        kinds = set()
        for river, stuck, lost, guard in guarded_ways():
            for standing in all_standings(river):
                good = good_choices(river, stuck, lost, standing)
                for choice in all_choices(river):
                    self.assertIs(guard.allowed(standing, choice), choice in good)
                    kinds.add((standing in lost, choice in good))
        self.assertEqual(kinds, {(True, False), (False, False), (False, True)})

    def test_given(self):
        kept, counts = 0, set()
        for river, stuck, lost, guard in guarded_ways():
            for standing in set(all_standings(river)) - set(lost):
                good = good_choices(river, stuck, lost, standing)
                for choice in all_choices(river):
                    given = guard.given(standing, choice)
                    self.assertIn(given, good)
                    many = [len(changed(other, choice)) for other in good]
                    self.assertEqual(given, good[many.index(min(many))])
                    self.assertEqual(given == choice, choice in good)
                    kept += given == choice
                    counts.add(min(many))
        self.assertGreater(kept, 1000)
        self.assertEqual(counts, {0, 1, 2, 3, 4})

    def test_lost(self):
        found = set()
        for river, stuck, lost, guard in guarded_ways():
            for standing, choice in itertools.product(lost, all_choices(river)):
                with self.assertRaises(Lost) as caught:
                    guard.given(standing, choice)
                self.assertEqual(caught.exception.turns, lost[standing])
                found.add(lost[standing])
        self.assertGreater(len(found), 4)


class Refused(Refusing):
    def guards(self):
        for river in light_rivers() + list(watched_rivers()[8:10]):
            for stuck in (None, {0: 0}):
                yield river, Guard(Holding(river, stuck))

    def test_no_standing_ahead_of_all(self):
        for river, guard in self.guards():
            for thing in no_standings(river, river.beginning()):
                for ask in (guard.allowed, guard.given):
                    self.refused(NoStanding, thing, lambda: ask(thing, all_choices(river)[0]))
                    self.refused(NoStanding, thing, lambda: ask(thing, None))

    def test_no_choice_held_or_lost(self):
        kinds = set()
        for river, guard in self.guards():
            for standing in (all_standings(river)[0], all_standings(river)[-1]):
                kinds.add(guard.holding.held(standing))
                for thing in no_choices(river, all_choices(river)[-1]):
                    self.refused(NoChoice, thing, lambda: guard.allowed(standing, thing))
                    self.refused(NoChoice, thing, lambda: guard.given(standing, thing))
        self.assertEqual(kinds, {True, False})

    def test_gates_that_stick_are_not_looked_at(self):
        for river, stuck, lost, guard in guarded_ways():
            held = [standing for standing in all_standings(river) if standing not in lost]
            for choice in set(all_choices(river)) - set(let_choices(river, stuck)):
                for standing in held[:1]:
                    self.assertIs(guard.allowed(standing, choice), False)
                    self.assertIn(guard.given(standing, choice), let_choices(river, stuck))


class Hand:
    """A hand that notes what it is asked, and tells one thing again and again."""

    def __init__(self, thing):
        self.thing, self.notes = thing, []

    def ask(self, standing, k):
        self.notes.append((standing, k))
        return self.thing


class Guarded(Refusing):
    def test_asks_the_hand_once_with_the_same_two(self):
        kinds = set()
        for river, stuck, lost, guard in guarded_ways():
            for standing in (all_standings(river)[0], all_standings(river)[-1]):
                for choice, k in itertools.product(all_choices(river), (0, 7)):
                    hand = Hand(choice)
                    keeper = guarded(guard, hand.ask)
                    self.assertEqual(hand.notes, [])
                    if standing in lost:
                        with self.assertRaises(Lost) as caught:
                            keeper(standing, k)
                        self.assertEqual(caught.exception.turns, lost[standing])
                    else:
                        self.assertEqual(keeper(standing, k), guard.given(standing, choice))
                    self.assertEqual(hand.notes, [(standing, k)])
                    kinds.add(standing in lost)
        self.assertEqual(kinds, {True, False})

    def test_what_is_refused_goes_through(self):
        river = mill_river()
        guard = Guard(Holding(river))
        for thing in no_choices(river, ((1, 0), 0)):
            hand = Hand(thing)
            self.refused(NoChoice, thing, lambda: guarded(guard, hand.ask)(((2, 2), 2), 3))
            self.refused(NoChoice, thing, lambda: guarded(guard, hand.ask)(((4, 4), 2), 3))
            self.assertEqual(hand.notes, [(((2, 2), 2), 3), (((4, 4), 2), 3)])
        for thing in no_standings(river, ((2, 2), 2)):
            hand = Hand(((1, 0), 0))
            self.refused(NoStanding, thing, lambda: guarded(guard, hand.ask)(thing, 3))
            self.assertEqual(len(hand.notes), 1)

    def test_runs_from_held_standings(self):
        done = {True: 0, False: 0}
        for river, stuck, lost, guard in guarded_ways():
            held = [standing for standing in all_standings(river) if standing not in lost]
            for standing, hand, sky in itertools.product(held[::2], some_hands(river), some_skies(river)):
                told = run(river, standing, guarded(guard, hand), sky, 12)
                self.assertEqual((told.word(), len(told.turns)), ("held", 12))
                now = standing
                for k, turn in enumerate(told.turns):
                    wanted = hand(now, k)
                    is_done = turn.choice == wanted
                    self.assertEqual(is_done, wanted in good_choices(river, stuck, lost, now))
                    done[is_done] += 1
                    now = turn.standing()
        self.assertGreater(min(done.values()), 1000)

    def test_a_run_asks_the_hand_once_in_each_turn(self):
        river = mill_river()
        hand = Hand(((0, 1), 0))
        told = run(river, river.beginning(), guarded(Guard(Holding(river)), hand.ask), some_skies(river)[1], 20)
        standings = [told.begin] + [turn.standing() for turn in told.turns]
        self.assertEqual(hand.notes, [(standings[k], k) for k in range(20)])

    def test_a_run_from_a_lost_standing_is_refused(self):
        river = mill_river()
        guard, hand = Guard(Holding(river)), Hand(((1, 1), None))
        with self.assertRaises(Lost) as caught:
            run(river, ((4, 4), 2), guarded(guard, hand.ask), some_skies(river)[0], 5)
        self.assertEqual(caught.exception.turns, 1)
        self.assertEqual(hand.notes, [(((4, 4), 2), 0)])


class NothingIsChanged(unittest.TestCase):
    def test_the_holding_stays_as_it_was(self):
        for river in watched_rivers():
            holding = Holding(river)
            before = (holding.keeper_table(), holding.sky_table())
            guard = Guard(holding)
            for standing, choice in itertools.product(holding.keeper_table(), all_choices(river)):
                guard.given(standing, choice)
            self.assertEqual((holding.keeper_table(), holding.sky_table()), before)


if __name__ == "__main__":
    unittest.main()
