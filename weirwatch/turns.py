"""One turn of a river: what standings, choices and rains are, and what comes of them."""

from weirwatch.errors import NoChoice, NoRain, NoStanding
from weirwatch.words import is_whole


def is_row(thing, lows, highs):
    """Whether the thing is a row of numbers, each from its low to its high."""
    if not isinstance(thing, tuple) or len(thing) != len(lows):
        return False
    return all([is_whole(number, low, high) for number, low, high in zip(thing, lows, highs)])


def is_row_up_to(thing, highs):
    return is_row(thing, [0 for high in highs], highs)


def is_pair(thing):
    return isinstance(thing, tuple) and len(thing) == 2


def is_standing(river, thing):
    """Whether the thing is a tuple (levels, wet) of levels that hold and cubes that the cloud can have."""
    if not is_pair(thing) or not is_whole(thing[1], 0, river.cloud):
        return False
    return is_row(thing[0], [basin.low for basin in river.basins], [basin.high for basin in river.basins])


def is_choice(river, thing):
    """Whether the thing is a tuple (settings, town) of settings of the gates and a town or None."""
    if not is_pair(thing):
        return False
    if thing[1] is not None and not is_whole(thing[1], 0, len(river.towns) - 1):
        return False
    return is_row_up_to(thing[0], [basin.gate.settings() - 1 for basin in river.basins])


def forced_rain(river, wet):
    """The least that must fall when the cloud has so many cubes."""
    too_many = max(wet + river.gain - river.cloud, 0)
    return min(too_many, sum([basin.rain for basin in river.basins]))


def is_rain(river, standing, thing):
    """Whether the thing is a rain at the standing."""
    if not is_standing(river, standing):
        raise NoStanding(standing)
    if not is_row_up_to(thing, [basin.rain for basin in river.basins]):
        return False
    return forced_rain(river, standing[1]) <= sum(thing) <= standing[1]


def refuse_no_choice(river, standing, choice):
    if not is_standing(river, standing):
        raise NoStanding(standing)
    if not is_choice(river, choice):
        raise NoChoice(choice)


def place_drawn_from(river, town):
    return river.place_of(river.towns[town].basin)


def draw(river, standing, choice):
    """How many cubes the town that is served draws; as each wants one at least, 0 where none is paid."""
    town = choice[1]
    if town is None:
        return 0
    want = river.towns[town].want
    return want if standing[0][place_drawn_from(river, town)] >= want else 0


def town_paid(river, standing, choice):
    """The number of the town that the choice pays at the standing, or None."""
    return choice[1] if draw(river, standing, choice) > 0 else None


def paid_by(river, standing, choice):
    """Whether the choice pays a town at the standing."""
    refuse_no_choice(river, standing, choice)
    return draw(river, standing, choice) > 0


def levels_left(river, standing, choice, drawn):
    """The levels behind what the town draws, ahead of all gates."""
    left = list(standing[0])
    if drawn > 0:
        left[place_drawn_from(river, choice[1])] -= drawn
    return left


def outs_at(river, settings, levels):
    return tuple([basin.gate.lets(setting, level)
                  for basin, setting, level in zip(river.basins, settings, levels)])


def levels_behind(left, outs, rain):
    """The levels that come: each basin loses what its own gate let, and gains from the one above and from rain."""
    from_above = (0,) + outs[:-1]
    return tuple([level - out + gained + cubes
                  for level, out, gained, cubes in zip(left, outs, from_above, rain)])


def broken_at(river, levels):
    return tuple([place for place, basin in enumerate(river.basins)
                  if not basin.low <= levels[place] <= basin.high])


class Turn:
    """What one turn did, and what there is behind it."""

    def __init__(self, river, standing, choice, rain):
        self.choice = choice
        self.rain = rain
        self.drawn = draw(river, standing, choice)
        self.paid = self.drawn > 0
        left = levels_left(river, standing, choice, self.drawn)
        self.outs = outs_at(river, choice[0], left)
        self.levels = levels_behind(left, self.outs, rain)
        self.wet = min(standing[1] - sum(rain) + river.gain, river.cloud)
        self.broken = broken_at(river, self.levels)

    def standing(self):
        """The tuple of levels and wet, which is no standing of the river where a basin is broken."""
        return (self.levels, self.wet)


def turned(river, standing, choice, rain):
    """The turn that the choice and the rain make at the standing."""
    refuse_no_choice(river, standing, choice)
    if not is_rain(river, standing, rain):
        raise NoRain(rain)
    return Turn(river, standing, choice, rain)
