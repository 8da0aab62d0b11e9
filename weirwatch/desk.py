"""A desk that is told lines, and answers each with a text."""

from weirwatch.days import Days
from weirwatch.errors import NoLine
from weirwatch.promises import lone_levels, promises
from weirwatch.rivertext import names_of, read_river, show_river
from weirwatch.serving import Serving
from weirwatch.standings import MOST_WEIGHT, refuse_heavy, weigh
from weirwatch.words import number_in

# More than six figures are no number that is written plainly.
HIGHEST_WRITTEN = 999999
NONE = "-"

# What stands behind the first word of each line but that of a river.
SHAPES = {
    "show": (),
    "promises": (),
    "alone": ("basin", "number", "number"),
    "now": (),
    "turn": ("choice", "row"),
    "stick": ("basin",),
    "mend": ("basin",),
    "stuck": (),
    "guard": ("choice",),
    "look": ("standing",),
    "rain": ("standing", "choice"),
    "serve": ("standing",),
}
RIVER_LINES = ("show", "promises", "alone")
DAY_LINES = ("now", "turn", "stick", "mend", "stuck", "guard")


def number_read(part):
    return number_in(part, 0, HIGHEST_WRITTEN)


def row_read(part):
    """The row of numbers that is written so, or None; how many they are isn't looked at."""
    numbers = [number_read(figures) for figures in part.split(",")]
    return None if None in numbers else tuple(numbers)


def standing_read(part):
    """The tuple of a row and a number that is written so, or None."""
    halves = part.split("/")
    if len(halves) != 2:
        return None
    levels = row_read(halves[0])
    wet = number_read(halves[1])
    return None if levels is None or wet is None else (levels, wet)


def choice_read(river, part):
    """The tuple of a row and a town's number, or None for no town, that is written so; or None."""
    halves = part.split("/")
    names = [NONE] + names_of(river.towns)
    if len(halves) != 2 or halves[1] not in names:
        return None
    settings = row_read(halves[0])
    if settings is None:
        return None
    return (settings, None if halves[1] == NONE else names.index(halves[1]) - 1)


def thing_read(river, shape, part):
    """What is written in the word, by what has to stand there, or None where it isn't written so."""
    if shape == "basin":
        return river.place_of(part)
    if shape == "number":
        return number_read(part)
    if shape == "row":
        return row_read(part)
    if shape == "standing":
        return standing_read(part)
    return choice_read(river, part)


def things_read(river, parts):
    """What is written in the words behind the first one; refused is the first that is wrong, too many, or lacks."""
    shapes = SHAPES[parts[0]]
    things = []
    for place, part in enumerate(parts[1:], start=1):
        thing = thing_read(river, shapes[place - 1], part) if place <= len(shapes) else None
        if thing is None:
            raise NoLine(place)
        things.append(thing)
    if len(things) < len(shapes):
        raise NoLine(len(parts))
    return things


def spaced(things):
    return " ".join([str(thing) for thing in things])


def row_written(row):
    return ",".join([str(number) for number in row])


def standing_written(standing):
    return "/".join([row_written(standing[0]), str(standing[1])])


def choice_written(river, choice):
    town = NONE if choice[1] is None else river.towns[choice[1]].name
    return "/".join([row_written(choice[0]), town])


def turn_written(river, turn):
    """The standing that comes, what each gate let, what was drawn, and the names of the broken basins."""
    told = [standing_written(turn.standing()), row_written(turn.outs), turn.drawn]
    return spaced(told + [river.basins[place].name for place in turn.broken])


def stuck_written(river, stuck):
    if len(stuck) == 0:
        return NONE
    return spaced(["=".join([river.basins[place].name, str(setting)]) for place, setting in stuck.items()])


class Desk:
    """Has no river at first; then the last one that it was told, and days of it if it isn't too heavy."""

    def __init__(self):
        self.river = None
        self.days = None
        self.serving = None

    def say(self, line):
        """The answer to the line."""
        if not isinstance(line, str):
            raise NoLine(0)
        parts = line.split(" ")
        if parts[0] == "river":
            return self.say_river(line, parts)
        if self.river is None or parts[0] not in SHAPES:
            raise NoLine(0)
        things = things_read(self.river, parts)
        if parts[0] in RIVER_LINES:
            return self.say_of_river(parts[0], things)
        refuse_heavy(weigh(self.river))
        if parts[0] in DAY_LINES:
            return self.say_of_days(parts[0], things)
        return self.say_of_standing(parts[0], things)

    def say_river(self, line, parts):
        if len(parts) == 1:
            raise NoLine(1)
        # All behind the first blank, as the text has blanks and line feeds of its own.
        river = read_river(line.partition(" ")[2])
        heft = weigh(river)
        self.river = river
        self.days = Days(river) if heft <= MOST_WEIGHT else None
        self.serving = None
        return str(heft)

    def say_of_river(self, verb, things):
        if verb == "show":
            return show_river(self.river)
        if verb == "promises":
            return spaced(promises(self.river))
        levels = lone_levels(self.river.basins[things[0]], things[1], things[2])
        return spaced(levels) if len(levels) > 0 else NONE

    def say_of_days(self, verb, things):
        if verb == "now":
            return standing_written(self.days.standing())
        if verb == "turn":
            return turn_written(self.river, self.days.turn(things[0], things[1]))
        if verb == "stuck":
            return stuck_written(self.river, self.days.stuck_now())
        if verb == "guard":
            return choice_written(self.river, self.days.guarded(things[0]))
        if verb == "stick":
            self.days.stick(things[0])
        else:
            self.days.mend(things[0])
        return "ok"

    def say_of_standing(self, verb, things):
        if verb == "look":
            return self.say_look(things[0])
        if verb == "rain":
            rain = self.days.holding_now().rain_for(things[0], things[1])
            return NONE if rain is None else row_written(rain)
        return self.say_serve(things[0])

    def say_look(self, standing):
        holding = self.days.holding_now()
        if holding.held(standing):
            return spaced(["held", choice_written(self.river, holding.choice_for(standing))])
        return spaced(["lost", holding.turns_left(standing)])

    def serving_now(self):
        """The serving by the gates that stick now, kept as long as these are the same."""
        holding = self.days.holding_now()
        if self.serving is None or self.serving.holding != holding:
            self.serving = Serving(holding)
        return self.serving

    def say_serve(self, standing):
        if not self.days.holding_now().held(standing):
            return self.say_look(standing)
        serving = self.serving_now()
        pair = serving.unserved(standing)
        if pair is not None:
            return spaced(["unserved", pair[0], self.river.towns[pair[1]].name])
        told = ["served"]
        for number, town in enumerate(self.river.towns):
            choice = choice_written(self.river, serving.serve(standing, number))
            told.extend([town.name, serving.turns_to(standing, number), choice])
        return spaced(told)
