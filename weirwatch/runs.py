"""Runs: turn behind turn, by a keeper and a sky."""

from weirwatch.errors import NoChoice, NoNumber, NoStanding
from weirwatch.turns import forced_rain, is_choice, is_standing, turned
from weirwatch.words import is_whole

MOST_TURNS = 200


class Run:
    """The standing at which a river began, and the turns that were made from there."""

    def __init__(self, begin, turns):
        self.begin = begin
        self.turns = tuple(turns)

    def word(self):
        """`broken` where a basin was broken, else `held`."""
        return "broken" if any([len(turn.broken) > 0 for turn in self.turns]) else "held"

    def last(self):
        """The standing that the last turn told, or the one of the beginning."""
        return self.turns[-1].standing() if len(self.turns) > 0 else self.begin

    def fallen(self):
        """How many cubes of rain fell."""
        return sum([sum(turn.rain) for turn in self.turns])

    def taken(self):
        """How many cubes the towns drew."""
        return sum([turn.drawn for turn in self.turns])

    def gone(self):
        """How many cubes went out through the last gate."""
        return sum([turn.outs[-1] for turn in self.turns])


def next_turn(river, standing, keeper, sky, k):
    choice = keeper(standing, k)
    # Looked at here, since the sky isn't asked about what is no choice.
    if not is_choice(river, choice):
        raise NoChoice(choice)
    return turned(river, standing, choice, sky(standing, choice, k))


def run(river, standing, keeper, sky, many):
    """The run from the standing, of at most so many turns, up to the first that breaks a basin."""
    if not is_whole(many, 0, MOST_TURNS):
        raise NoNumber(many)
    if not is_standing(river, standing):
        raise NoStanding(standing)
    turns = []
    now = standing
    for k in range(many):
        turn = next_turn(river, now, keeper, sky, k)
        turns.append(turn)
        if len(turn.broken) > 0:
            break
        now = turn.standing()
    return Run(standing, turns)


def keeper_of(choices):
    """The keeper that tells these choices in turn, and then the last one again and again."""
    if not isinstance(choices, list) or len(choices) == 0:
        raise NoChoice(choices)
    kept = list(choices)

    def keeper(standing, k):
        return kept[min(k, len(kept) - 1)]

    return keeper


def rain_by(river, wet, wanted):
    """What falls of the wanted rain, basin by basin, as far as it may fall and the cloud has it."""
    rain = []
    for basin, cubes in zip(river.basins, wanted):
        rain.append(min(cubes, basin.rain, wet - sum(rain)))
    return rain


def filled_up(river, rain, least):
    """The rain with what lacks to the least one added, basin by basin, as far as it may fall."""
    lacks = max(least - sum(rain), 0)
    full = []
    for basin, cubes in zip(river.basins, rain):
        more = min(lacks, basin.rain - cubes)
        full.append(cubes + more)
        lacks -= more
    return tuple(full)


def sky_of(river, rains):
    """The sky that goes by these rains in turn, and then by noughts, and always tells a rain."""
    kept = [tuple(row) for row in rains]
    noughts = tuple([0 for basin in river.basins])

    def sky(standing, choice, k):
        wanted = kept[k] if k < len(kept) else noughts
        wet = standing[1]
        return filled_up(river, rain_by(river, wet, wanted), forced_rain(river, wet))

    return sky
