"""What each basin of a long river may promise to the next one, held by itself whatever comes in."""

from weirwatch.errors import NoNumber, NoPromise, NoStanding
from weirwatch.holding import found_by_rounds, is_safe
from weirwatch.turns import is_standing
from weirwatch.words import is_whole

MOST_PROMISED = 12


def is_promised(thing):
    return is_whole(thing, 0, MOST_PROMISED)


def refuse_no_bounds(up, hi):
    if not is_promised(up):
        raise NoNumber(up)
    if not is_promised(hi):
        raise NoNumber(hi)


def levels_of(basin):
    return list(range(basin.low, basin.high + 1))


def ends_alone(basin, up, level, setting):
    """For each number of cubes that may come in, from 0 on, how far the level that comes is above the lowest one.

    It is None where that level is below the lowest or above the highest one.
    """
    left = level - basin.gate.lets(setting, level)
    ends = [left + cubes for cubes in range(up + basin.rain + 1)]
    return [end - basin.low if basin.low <= end <= basin.high else None for end in ends]


def ends_by_setting(basin, up, hi, level):
    """Each setting that may be used at the level, in their order, with what comes behind it."""
    usable = [setting for setting in range(basin.gate.settings()) if basin.gate.lets(setting, level) <= hi]
    return dict([(setting, ends_alone(basin, up, level, setting)) for setting in usable])


def lost_alone(ways):
    """For each level, from the lowest on, within how many turns it is lost, or None; ways has its ends by setting."""

    def comes(number, found):
        return not any([is_safe(ends, found) for ends in ways[number].values()])

    return found_by_rounds(len(ways), comes)


def settings_alone(basin, up, hi):
    """Each held level, rising, with the first setting behind which, whatever comes in, a held level comes."""
    ways = [ends_by_setting(basin, up, hi, level) for level in levels_of(basin)]
    lost = lost_alone(ways)
    held = [number for number, turns in enumerate(lost) if turns is None]
    return dict([(basin.low + number, first_safe(ways[number], lost)) for number in held])


def first_safe(by_setting, lost):
    return [setting for setting, ends in by_setting.items() if is_safe(ends, lost)][0]


def lone_levels(basin, up, hi):
    """The levels at which the basin is held alone, rising."""
    refuse_no_bounds(up, hi)
    return list(settings_alone(basin, up, hi))


def lone_setting(basin, up, hi, level):
    """The setting by which the basin is held alone at the level, or None where that is lost."""
    refuse_no_bounds(up, hi)
    if not is_whole(level, basin.low, basin.high):
        raise NoNumber(level)
    return settings_alone(basin, up, hi).get(level)


def lone_lost(basin, up, hi):
    """Each lost level with its number and a dict of all settings, each with the least that comes in and is bad."""
    refuse_no_bounds(up, hi)
    ways = [ends_by_setting(basin, up, hi, level) for level in levels_of(basin)]
    lost = lost_alone(ways)
    numbers = [number for number, turns in enumerate(lost) if turns is not None]
    return dict([(basin.low + number, (lost[number], bad_by_setting(basin, ways, lost, number)))
                 for number in numbers])


def bad_by_setting(basin, ways, lost, number):
    """All settings of the gate, each with the least that is bad, or None where it may not be used."""
    return dict([(setting, least_bad(ways[number].get(setting, []), lost, lost[number]))
                 for setting in range(basin.gate.settings())])


def least_bad(ends, lost, turns):
    """The least that comes in and leads out of bounds, or to a level that is lost in fewer turns; or None."""
    for cubes, end in enumerate(ends):
        if end is None or (lost[end] is not None and lost[end] < turns):
            return cubes
    return None


def are_numbers(river, thing):
    if not isinstance(thing, list) or len(thing) != len(river.basins):
        return False
    return all([is_promised(number) for number in thing])


def settings_by(river, numbers):
    """For each basin its held levels with their settings, by what the basin above promises and by its own number."""
    ups = [0] + numbers[:-1]
    return [settings_alone(basin, up, hi) for basin, up, hi in zip(river.basins, ups, numbers)]


def first_lost(levels, by_basin):
    """The number of the first basin whose level is none of its held ones, or None."""
    for place, level in enumerate(levels):
        if level not in by_basin[place]:
            return place
    return None


def are_promises(river, numbers):
    """Whether each basin's start is held by the number of the basin above and by its own."""
    if not are_numbers(river, numbers):
        return False
    return first_lost(river.beginning()[0], settings_by(river, numbers)) is None


def least_promise(basin, up):
    """The least number by which the basin's start is held, or None."""
    for hi in range(MOST_PROMISED + 1):
        if basin.start in settings_alone(basin, up, hi):
            return hi
    return None


def promises(river):
    """The least promises, from the top down."""
    numbers = []
    up = 0
    for place, basin in enumerate(river.basins):
        up = least_promise(basin, up)
        if up is None:
            raise NoPromise(place)
        numbers.append(up)
    return numbers


def refuse_lost(levels, by_basin):
    place = first_lost(levels, by_basin)
    if place is not None:
        raise NoPromise(place)


def local_keeper(river, numbers):
    """The keeper by which each basin finds its setting by itself, and no town is served."""
    if not are_numbers(river, numbers):
        raise NoNumber(numbers)
    by_basin = settings_by(river, numbers)
    refuse_lost(river.beginning()[0], by_basin)

    def keeper(standing, k):
        if not is_standing(river, standing):
            raise NoStanding(standing)
        refuse_lost(standing[0], by_basin)
        return (tuple([by_level[level] for by_level, level in zip(by_basin, standing[0])]), None)

    return keeper
