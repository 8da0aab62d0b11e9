"""Points 4 to 6 and 101 to 106: what a desk answers to each kind of line, and what it refuses."""

import itertools
import unittest

from things import (
    all_choices, all_rains, all_standings, any_things, dry_river, mill_river, no_texts, watched_rivers, wide_river,
)
from weirwatch.days import Days
from weirwatch.desk import Desk
from weirwatch.errors import (
    Broken, Lost, NoChoice, NoLine, NoNumber, NoPromise, NoRain, NoStanding, NoStuck, NoText, TooMany,
)
from weirwatch.gates import StuckGate
from weirwatch.guard import Guard
from weirwatch.holding import Holding
from weirwatch.promises import lone_levels, promises
from weirwatch.rivertext import read_river, show_river
from weirwatch.serving import Serving
from weirwatch.standings import weigh
from weirwatch.turns import turned

MILL = "cloud 2 1\nbasin upper 0 4 2 1 step 0 2\nbasin lower 1 4 2 1 flap 2 3\ntown mill lower 1"
# A cube may fall in each turn, and the gate lets one or none.
BROOK = "cloud 1 1\nbasin a 0 3 0 1 step 0 1"
TOWNS = "cloud 1 1\nbasin a 0 2 0 1 step 0\ntown x a 1\ntown y a 2"
# The sky need never rain, so the town is paid once at most.
DRY = "cloud 1 0\nbasin a 0 1 1 1 step 0 1\ntown a a 1"

# A right line of each kind, for the river that the document shows.
LINES = (
    "show", "promises", "alone upper 0 2", "now", "turn 1,0/mill 1,0", "stick lower", "mend lower", "stuck",
    "guard 0,2/mill", "look 3,4/2", "rain 3,4/2 0,1/-", "serve 3,4/2",
)


def desk_of(text, *lines):
    """A desk that has the river, and was told the lines."""
    desk = Desk()
    desk.say("river " + text)
    for line in lines:
        desk.say(line)
    return desk


def row_text(row):
    return ",".join(map(str, row))


def standing_text(standing):
    return f"{row_text(standing[0])}/{standing[1]}"


def choice_text(river, choice):
    return f"{row_text(choice[0])}/{'-' if choice[1] is None else river.towns[choice[1]].name}"


def desk_rivers():
    """The watched rivers whose gates are all written in texts."""
    return [river for river in watched_rivers() if not any(isinstance(b.gate, StuckGate) for b in river.basins)]


class Desks(unittest.TestCase):
    def told(self, desk, line, answer):
        with self.subTest(line=line):
            told = desk.say(line)
            self.assertEqual((type(told), told), (str, answer))

    def refused(self, desk, said, error, **fields):
        with self.subTest(said=said), self.assertRaises(error) as caught:
            desk.say(said)
        self.assertIs(type(caught.exception), error)
        self.assertEqual(repr(vars(caught.exception)), repr(fields))


class Rivers(Desks):
    def test_the_answer_is_the_weight(self):
        self.told(Desk(), "river " + MILL, "1920")
        for river in desk_rivers():
            self.told(Desk(), "river " + show_river(river), str(weigh(river)))

    def test_show(self):
        for river in desk_rivers():
            text = show_river(river)
            self.told(desk_of(text), "show", text)

    def test_another_river_takes_the_place(self):
        desk = desk_of(MILL, "turn 1,0/mill 1,0", "stick upper", "serve 2,2/2")
        self.told(desk, "river " + TOWNS, str(weigh(read_river(TOWNS))))
        self.told(desk, "show", TOWNS)
        self.told(desk, "now", "0/1")
        self.told(desk, "stuck", "-")
        self.told(desk, "serve 1/1", "served x 1 0/x y 2 0/-")
        self.refused(desk, "stick upper", NoLine, place=1)

    def test_the_same_river_again_begins_anew(self):
        desk = desk_of(MILL, "turn 1,0/mill 1,0", "stick upper")
        desk.say("river " + MILL)
        self.told(desk, "now", "2,2/2")
        self.told(desk, "stuck", "-")
        desk.say("stick upper")
        self.told(desk, "stuck", "upper=0")

    def test_a_text_that_is_no_river(self):
        rows = (
            ("river ", 0, 0), ("river  ", 0, 0), ("river cloud", 0, 1), ("river cloud 2 1", 1, 0),
            ("river  cloud 2 1", 0, 0), ("river " + MILL + "\n", 4, 0), ("river " + MILL + " ", 3, 4),
            ("river show", 0, 0), ("river \n" + MILL, 0, 0), ("river " + MILL.replace("4 2 1 step", "4 5 1 step"), 1, 4),
        )
        for line, row, place in rows:
            self.refused(Desk(), line, NoText, line=row, place=place)
            desk = desk_of(BROOK, "turn 0/- 1", "stick a")
            self.refused(desk, line, NoText, line=row, place=place)
            self.told(desk, "show", BROOK)
            self.told(desk, "now", "1/1")
            self.told(desk, "stuck", "a=0")

    def test_refused_ahead_of_any_river_there_is_still_none(self):
        desk = Desk()
        self.refused(desk, "river cloud", NoText, line=0, place=1)
        self.refused(desk, "show", NoLine, place=0)

    def test_river_alone_lacks_a_word(self):
        self.refused(Desk(), "river", NoLine, place=1)
        self.refused(desk_of(MILL), "river", NoLine, place=1)

    def test_promises(self):
        found = set()
        for river in desk_rivers():
            desk = desk_of(show_river(river))
            try:
                row = promises(river)
            except NoPromise as refusal:
                self.refused(desk, "promises", NoPromise, basin=refusal.basin)
                found.add(refusal.basin)
            else:
                self.told(desk, "promises", " ".join(map(str, row)))
                found.add("told")
        self.assertEqual(found, {0, 1, "told"})
        self.told(desk_of("cloud 1 1\nbasin a 0 12 12 6 step 0 6 12\nbasin b 0 12 0 6 flap 0 12"), "promises", "6 12")

    def test_alone(self):
        found = set()
        for river in desk_rivers():
            desk = desk_of(show_river(river))
            for basin, up, hi in itertools.product(river.basins, (0, 1, 12), (0, 1, 2, 12)):
                levels = lone_levels(basin, up, hi)
                self.told(desk, f"alone {basin.name} {up} {hi}", " ".join(map(str, levels)) if levels else "-")
                found.add(min(len(levels), 2))
        self.assertEqual(found, {0, 2})
        self.told(desk_of("cloud 1 1\nbasin a 2 5 2 0 step 1 12"), "alone a 1 12", "-")
        self.told(desk_of("cloud 1 1\nbasin a 10 11 10 0 step 0"), "alone a 0 0", "10 11")
        self.told(desk_of("cloud 1 1\nbasin a 7 7 7 0 step 0"), "alone a 0 0", "7")
        self.told(desk_of("cloud 1 1\nbasin a 0 5 0 1 flap 2"), "alone a 0 1", "0 1 2 3")

    def test_alone_is_refused_as_its_stage_does(self):
        desk = desk_of(MILL)
        for line, number in (("13 0", 13), ("0 13", 13), ("999999 1000", 999999), ("12 999999", 999999)):
            self.refused(desk, "alone lower " + line, NoNumber, thing=number)


class DayLines(Desks):
    def test_by_hand(self):
        desk = desk_of(MILL)
        self.told(desk, "now", "2,2/2")
        self.told(desk, "turn 1,0/mill 1,0", "1,3/2 2,0 1")
        self.told(desk, "now", "1,3/2")
        self.told(desk, "turn 0,0/- 0,1", "1,3/2 0,1 0")
        self.told(desk, "stick upper", "ok")
        self.told(desk, "stuck", "upper=0")
        self.told(desk, "mend upper", "ok")
        self.told(desk, "stuck", "-")

    def test_turns(self):
        many = 0
        for river in desk_rivers():
            for choice, rain in itertools.product(all_choices(river), all_rains(river, river.cloud)):
                desk = desk_of(show_river(river))
                turn = turned(river, river.beginning(), choice, rain)
                words = [standing_text(turn.standing()), row_text(turn.outs), str(turn.drawn)]
                words += [river.basins[place].name for place in turn.broken]
                self.told(desk, f"turn {choice_text(river, choice)} {row_text(rain)}", " ".join(words))
                self.told(desk, "now", words[0])
                many += len(turn.broken) > 0
        self.assertGreater(many, 20)

    def test_turns_that_break_basins(self):
        desk = desk_of(MILL.replace("4 2 1", "4 4 1"))
        self.told(desk, "turn 0,0/- 1,0", "5,2/2 0,2 0 upper")
        desk = desk_of("cloud 2 2\nbasin b 0 1 1 1 step 0\nbasin c 0 1 0 0 step 0\nbasin a 0 1 1 1 step 0")
        self.told(desk, "turn 0,0,0/- 1,0,1", "2,0,2/2 0,0,0 0 b a")
        self.told(desk, "now", "2,0,2/2")
        self.told(desk, "stick b", "ok")
        self.told(desk, "stuck", "b=0")
        self.told(desk, "mend b", "ok")
        self.refused(desk, "turn 0,0,0/- 0,0,0", Broken, basins=(0, 2))
        self.refused(desk, "guard 0,0,0/-", Broken, basins=(0, 2))
        self.refused(desk, "turn 0/- 0", Broken, basins=(0, 2))
        self.told(desk, "look 0,0,0/0", "lost 3")

    def test_stuck_in_the_order_of_the_basins(self):
        desk = desk_of(MILL, "turn 1,0/- 1,0", "stick lower", "stick upper")
        self.told(desk, "stuck", "upper=1 lower=0")
        desk.say("mend upper")
        self.told(desk, "stuck", "lower=0")

    def test_guard(self):
        kinds = set()
        for river in desk_rivers():
            for stuck in ([], [0], list(range(len(river.basins)))):
                desk = desk_of(show_river(river), *[f"stick {river.basins[place].name}" for place in stuck])
                holding = Holding(river, dict.fromkeys(stuck, 0))
                for choice in all_choices(river):
                    line = "guard " + choice_text(river, choice)
                    if holding.held(river.beginning()):
                        given = Guard(holding).given(river.beginning(), choice)
                        self.told(desk, line, choice_text(river, given))
                        kinds.add(given == choice)
                    else:
                        self.refused(desk, line, Lost, turns=holding.turns_left(river.beginning()))
                        kinds.add("lost")
        self.assertEqual(kinds, {True, False, "lost"})

    def test_a_name_that_towns_and_basins_share(self):
        desk = desk_of(DRY)
        self.told(desk, "turn 0/a 0", "0/1 0 1")
        self.told(desk, "stick a", "ok")

    def test_refused_as_their_stage_does(self):
        desk = desk_of(MILL)
        rows = (
            ("turn 2,0/- 1,0", NoChoice, ((2, 0), None)), ("turn 1/- 1,0", NoChoice, ((1,), None)),
            ("turn 1,0,0/mill 1,0", NoChoice, ((1, 0, 0), 0)), ("turn 999999,0/- 9", NoChoice, ((999999, 0), None)),
            ("turn 1,0/- 0,0", NoRain, (0, 0)), ("turn 1,0/- 2,0", NoRain, (2, 0)), ("turn 1,0/- 1", NoRain, (1,)),
            ("turn 1,0/- 1,0,0", NoRain, (1, 0, 0)), ("guard 2,0/-", NoChoice, ((2, 0), None)),
            ("guard 1/mill", NoChoice, ((1,), 0)), ("mend upper", NoStuck, 0), ("mend lower", NoStuck, 1),
        )
        for line, error, thing in rows:
            self.refused(desk, line, error, thing=thing)
            self.told(desk, "now", "2,2/2")
            self.told(desk, "stuck", "-")
        desk.say("stick lower")
        self.refused(desk, "stick lower", NoStuck, thing=1)
        self.refused(desk, "turn 1,1/- 1,0", NoChoice, thing=((1, 1), None))
        self.told(desk, "stuck", "lower=0")


class StandingLines(Desks):
    def test_by_hand(self):
        desk = desk_of(MILL)
        self.told(desk, "look 2,2/2", "held 0,0/-")
        self.told(desk, "look 4,4/2", "lost 1")
        self.told(desk, "rain 4,4/2 1,0/-", "0,1")
        self.told(desk, "rain 2,2/2 1,0/mill", "-")
        self.told(desk, "serve 2,2/2", "served mill 1 0,0/mill")
        self.told(desk, "serve 0,1/0", "served mill 4 0,0/-")
        self.told(desk, "serve 4,4/2", "lost 1")
        desk = desk_of(DRY)
        self.told(desk, "serve 0/0", "unserved 1 a")
        self.told(desk, "serve 1/1", "unserved 2 a")
        desk = desk_of(TOWNS)
        self.told(desk, "serve 0/1", "served x 2 0/- y 3 0/-")
        self.told(desk_of(BROOK), "serve 3/1", "served")
        desk = desk_of("cloud 1 1\nbasin a 0 2 0 1 step 0 1\ntown x a 1\ntown y a 3")
        self.told(desk, "serve 1/1", "unserved 1 y")

    def served_text(self, river, serving, standing):
        holding = serving.holding
        if not holding.held(standing):
            return f"lost {holding.turns_left(standing)}"
        if serving.unserved(standing):
            number, town = serving.unserved(standing)
            return f"unserved {number} {river.towns[town].name}"
        rows = [
            f" {town.name} {serving.turns_to(standing, k)} {choice_text(river, serving.serve(standing, k))}"
            for k, town in enumerate(river.towns)
        ]
        return "served" + "".join(rows)

    def ways(self):
        """Desks with each river, with none and with some of its gates stuck, and what has to be told."""
        for river in desk_rivers():
            last = len(river.basins) - 1
            rain = row_text(all_rains(river, river.cloud)[0])
            for choice in all_choices(river)[::5]:
                desk = desk_of(show_river(river), f"turn {choice_text(river, choice)} {rain}")
                yield river, desk, Serving(Holding(river))
                desk.say("stick " + river.basins[last].name)
                yield river, desk, Serving(Holding(river, {last: choice[0][last]}))
                desk.say("mend " + river.basins[last].name)
                desk.say("stick " + river.basins[0].name)
                yield river, desk, Serving(Holding(river, {0: choice[0][0]}))

    def test_every_standing(self):
        first_words = set()
        for river, desk, serving in self.ways():
            for standing in all_standings(river)[::2]:
                text, holding = standing_text(standing), serving.holding
                if holding.held(standing):
                    self.told(desk, "look " + text, "held " + choice_text(river, holding.choice_for(standing)))
                else:
                    self.told(desk, "look " + text, f"lost {holding.turns_left(standing)}")
                answer = self.served_text(river, serving, standing)
                self.told(desk, "serve " + text, answer)
                first_words.add(answer.split(" ")[0])
        self.assertEqual(first_words, {"served", "unserved", "lost"})

    def test_every_rain(self):
        kinds = set()
        for river, desk, serving in self.ways():
            let = serving.holding.standings.choices()
            for standing, choice in itertools.product(all_standings(river)[::5], all_choices(river)):
                line = f"rain {standing_text(standing)} {choice_text(river, choice)}"
                if choice not in let:
                    self.refused(desk, line, NoChoice, thing=choice)
                    kinds.add("refused")
                    continue
                rain = serving.holding.rain_for(standing, choice)
                self.told(desk, line, "-" if rain is None else row_text(rain))
                kinds.add(rain is None)
        self.assertEqual(kinds, {"refused", True, False})

    def test_asked_turn_and_turn_about(self):
        # What was found for other gates that stick, or for another river, is never told again.
        desk = desk_of(BROOK)
        for again in range(2):
            self.told(desk, "look 3/1", "held 1/-")
            self.told(desk, "serve 3/1", "served")
            desk.say("stick a")
            self.told(desk, "look 3/1", "lost 1")
            self.told(desk, "serve 3/1", "lost 1")
            desk.say("mend a")
            self.told(desk, "serve 3/1", "served")
            desk.say("river " + BROOK.replace("step 0 1", "step 0"))
            self.told(desk, "serve 3/1", "lost 1")
            desk.say("river " + BROOK)

    def test_refused_as_their_stage_does(self):
        desk = desk_of(MILL)
        wrong = (("5,2/2", ((5, 2), 2)), ("2,0/2", ((2, 0), 2)), ("2,2/3", ((2, 2), 3)), ("2/2", ((2,), 2)),
                 ("2,2,2/2", ((2, 2, 2), 2)), ("2,2/999999", ((2, 2), 999999)))
        for text, thing in wrong:
            self.refused(desk, "look " + text, NoStanding, thing=thing)
            self.refused(desk, "serve " + text, NoStanding, thing=thing)
            self.refused(desk, f"rain {text} 1,0/-", NoStanding, thing=thing)
            self.refused(desk, f"rain {text} 9/-", NoStanding, thing=thing)
        for standing in ("2,2/2", "4,4/2"):
            self.refused(desk, f"rain {standing} 2,0/-", NoChoice, thing=((2, 0), None))
            self.refused(desk, f"rain {standing} 1/mill", NoChoice, thing=((1,), 0))


class NoSuchLine(Desks):
    def test_what_is_no_text(self):
        for desk in (Desk(), desk_of(MILL)):
            for thing in no_texts() + [["show"], ("show",), {"show": "show"}]:
                self.refused(desk, thing, NoLine, place=0)

    def test_whatever_thing(self):
        for thing in any_things():
            self.refused(Desk(), thing, NoLine, place=0)

    def test_every_line_while_there_is_no_river(self):
        desk = Desk()
        for line in LINES + ("", " ", "show show", "alone upper", "alone x", "turn", "stick upper lower", "rivers"):
            self.refused(desk, line, NoLine, place=0)

    def test_first_words(self):
        desk = desk_of(MILL)
        for line in ("", " ", "  ", "\n", " show", "Show", "SHOW", "show\n", "\nshow", "shows", "sho", "show,", "0", "-",
                     "help", "rivers", "River " + MILL, " river " + MILL, "river\n" + MILL, "rain/", "2,2/2", "upper",
                     "basin upper", "cloud 2 1", "held", "served", "ok", "guarded 0,0/-", "stuckk"):
            self.refused(desk, line, NoLine, place=0)

    def test_one_word_too_many(self):
        for line in LINES:
            many = len(line.split(" "))
            desk = desk_of(MILL, *(["stick lower"] if line == "mend lower" else []))
            for more in (" ", " 0", "  ", " show", " -", " 1,0 0", " \n"):
                self.refused(desk, line + more, NoLine, place=many)

    def test_words_that_lack(self):
        desk = desk_of(MILL)
        for line in LINES:
            words = line.split(" ")
            for many in range(1, len(words)):
                self.refused(desk, " ".join(words[:many]), NoLine, place=many)

    def test_the_first_word_that_is_wrong(self):
        desk = desk_of(MILL)
        wrong = ("", "\n", "?", "x", "Upper", "upper,", "01", "-1", "+1", "1.", "0x1", "1_0", "1000000", "1,", ",1", "1,,0",
                 "1;0", "1,-1", "1,0/", "/", "/1", "1,0/01", "1,0/1000000", "1,0//-", "1,0/x/-", "1,0/upper/1",
                 "1,0/None", "1,0/Mill", "1,0/mill\n", "1,01/mill", "1,x/-", "/-", "-/-", "(1,0)", "--")
        for line in LINES:
            words = line.split(" ")
            for place in range(1, len(words)):
                for word in wrong:
                    spoiled = words[:place] + [word] + words[place + 1:]
                    self.refused(desk, " ".join(spoiled), NoLine, place=place)
                    # Where more words are wrong, or lack, the first one is told all the same.
                    self.refused(desk, " ".join(words[:place] + [word]), NoLine, place=place)
                    self.refused(desk, " ".join(words[:place] + [word] * 4), NoLine, place=place)

    def test_words_of_another_kind(self):
        desk = desk_of(MILL)
        rows = (
            ("alone mill 0 2", 1), ("alone 0 0 2", 1), ("alone upper lower 2", 2), ("alone upper 0 -", 3),
            ("alone upper 0,0 2", 2), ("alone upper 0 2,0", 3), ("turn 1,0 1,0", 1), ("turn 1,0/1 1,0", 1),
            ("turn 1,0/lower 1,0", 1), ("turn 1,0/0 1,0", 1), ("turn 1,0/mill 1,0/1", 2), ("turn 1,0/mill -", 2),
            ("turn -/mill 1,0", 1), ("stick mill", 1), ("stick 0", 1), ("stick -", 1), ("mend mill", 1), ("mend 1", 1),
            ("guard 0,0/upper", 1), ("guard 0,0", 1), ("guard -", 1), ("look 2,2/-", 1), ("look 2,2/mill", 1),
            ("look 2,2", 1), ("look 2/2/2", 1), ("rain 2,2/- 1,0/-", 1), ("rain 2,2/2 2,2/2", 2), ("rain 2,2/2 -", 2),
            ("serve mill", 1), ("serve 2,2/mill", 1), ("stick  lower", 1), ("turn  1,0/mill 1,0", 1),
            ("turn 1,0/mill  1,0", 2), ("turn 1, 0/mill 1,0", 1), ("turn 1,0/mill 1, 0", 2), ("look 2,2/ 2", 1),
        )
        for line, place in rows:
            self.refused(desk, line, NoLine, place=place)

    def test_no_line_ahead_of_all_else(self):
        # Behind a break, at a lost standing, and with numbers that are none of the river's.
        desk = desk_of(MILL.replace("4 2 1", "4 4 1"), "turn 0,0/- 1,0")
        self.refused(desk, "turn 0,0/x 1,0", NoLine, place=1)
        self.refused(desk, "turn 9/- 1,x", NoLine, place=2)
        self.refused(desk, "rain 9/9 1,0/x", NoLine, place=2)
        self.refused(desk, "alone lower 13 x", NoLine, place=3)
        self.refused(desk, "alone lower 13 1 1", NoLine, place=4)
        self.refused(desk, "turn 0,0/- 1,0 1", NoLine, place=3)
        self.refused(desk, "turn 0,0/- 1,0", Broken, basins=(0,))

    def test_right_lines_are_answered(self):
        for line in LINES:
            desk = desk_of(MILL, *(["stick lower"] if line == "mend lower" else []))
            if line == "promises":
                self.refused(desk, line, NoPromise, basin=1)
            elif line == "guard 0,2/mill":
                self.refused(desk, line, NoChoice, thing=((0, 2), 0))
            else:
                self.assertIs(type(desk.say(line)), str)


class TooHeavy(Desks):
    def test_what_is_still_answered(self):
        river = wide_river()
        desk = Desk()
        self.told(desk, "river " + show_river(river), str(weigh(river)))
        self.told(desk, "show", show_river(river))
        self.refused(desk, "promises", NoPromise, basin=2)
        self.told(desk, "alone aaa 0 6", " ".join(map(str, lone_levels(river.basins[0], 0, 6))))
        self.refused(desk, "alone aaa 0 13", NoNumber, thing=13)

    def test_what_is_refused(self):
        text = MILL.replace("cloud 2 1", "cloud 12 1")
        heavy = weigh(read_river(text))
        self.assertGreater(heavy, 4000)
        desk = Desk()
        self.told(desk, "river " + text, str(heavy))
        for line in LINES[3:]:
            words = line.split(" ")
            self.refused(desk, line, TooMany, count=heavy)
            self.refused(desk, line + " x", NoLine, place=len(words))
            for many in range(1, len(words)):
                self.refused(desk, " ".join(words[:many]), NoLine, place=many)
                self.refused(desk, " ".join(words[:many] + ["?"] + words[many + 1:]), NoLine, place=many)
        for line in ("turn 9/- 9", "guard 9/-", "look 9/9", "rain 9/9 9/-", "serve 9/9", "mend upper"):
            self.refused(desk, line, TooMany, count=heavy)

    def test_at_the_bound(self):
        text = show_river(dry_river((10, 10), 4, (4, 2)))
        desk = desk_of(text)
        self.told(desk, "now", "0,0/4")
        self.told(desk, "river " + text.replace("cloud 4", "cloud 5"), "4800")
        self.refused(desk, "now", TooMany, count=4800)
        desk.say("river " + MILL)
        self.told(desk, "now", "2,2/2")
        self.assertEqual(weigh(dry_river((10, 10), 4, (4, 2))), 4000)

    def test_a_heavy_river_takes_the_place_of_a_light_one(self):
        desk = desk_of(MILL, "stick upper", "look 2,2/2", "serve 2,2/2")
        desk.say("river " + show_river(wide_river()))
        for line in ("now", "stuck", "stick aaa", "mend aaa"):
            self.refused(desk, line, TooMany, count=weigh(wide_river()))


class Unchanged(Desks):
    def test_what_is_refused_changes_nothing(self):
        desk = desk_of(MILL, "turn 1,0/mill 1,0", "stick lower")
        for line in ("turn 1,1/- 1,0", "turn 1,0/- 0,0", "turn 1,0/-", "stick lower", "mend upper", "stick x", "guard 9/-",
                     "look 9/9", "river", "river cloud", "rain 2,2/2 1,1/-", "promises", None, 7, "", "x"):
            with self.assertRaises(ValueError):
                desk.say(line)
            self.told(desk, "now", "1,3/2")
            self.told(desk, "stuck", "lower=0")
            self.told(desk, "show", MILL)

    def test_asking_changes_nothing(self):
        desk = desk_of(MILL, "turn 1,0/mill 1,0", "stick upper")
        asked = ("show", "now", "stuck", "guard 0,0/-", "look 2,2/2", "rain 4,4/2 1,0/-", "serve 2,2/2", "alone upper 0 2")
        first = [desk.say(line) for line in asked]
        for again in range(2):
            self.assertEqual([desk.say(line) for line in asked], first)
            self.assertEqual([desk.say(line) for line in reversed(asked)], first[::-1])

    def test_two_desks_have_nothing_in_common(self):
        one, other = desk_of(MILL), desk_of(MILL)
        one.say("turn 1,0/mill 1,0")
        one.say("stick upper")
        self.told(other, "now", "2,2/2")
        self.told(other, "stuck", "-")
        self.refused(Desk(), "now", NoLine, place=0)


class LongTalks(Desks):
    def test_a_desk_beside_days(self):
        many = 0
        for river in desk_rivers():
            desk, days = desk_of(show_river(river)), Days(river)
            choices = all_choices(river)
            for k in range(20):
                rains = all_rains(river, days.standing()[1])
                choice, rain = choices[k * 3 % len(choices)], rains[k * 5 % len(rains)]
                place = k % len(river.basins)
                if place in days.stuck_now():
                    days.mend(place)
                    self.told(desk, "mend " + river.basins[place].name, "ok")
                else:
                    days.stick(place)
                    self.told(desk, "stick " + river.basins[place].name, "ok")
                stuck = [f"{river.basins[key].name}={days.stuck_now()[key]}" for key in sorted(days.stuck_now())]
                self.told(desk, "stuck", " ".join(stuck) or "-")
                if days.held():
                    choice = days.guarded(choice)
                    self.told(desk, "guard " + choice_text(river, choice), choice_text(river, choice))
                elif any(choice[0][key] != setting for key, setting in days.stuck_now().items()):
                    continue
                turn = days.turn(choice, rain)
                answer = desk.say(f"turn {choice_text(river, choice)} {row_text(rain)}")
                self.assertEqual(answer.split(" ")[0], standing_text(turn.standing()))
                self.told(desk, "now", standing_text(days.standing()))
                many += 1
                if turn.broken:
                    break
        self.assertGreater(many, 100)

    def test_the_river_that_the_document_shows(self):
        self.assertEqual(show_river(mill_river()), MILL)


if __name__ == "__main__":
    unittest.main()
