"""Basins, towns, and the rivers that are made of them."""

from weirwatch.errors import NoBasin, NoCloud, NoGate, NoName, NoRiver, NoTown
from weirwatch.gates import Gate
from weirwatch.words import is_name, is_whole

HIGHEST = 12
MOST_RAIN = 6
MOST_WANT = 6
MOST_CLOUD = 12
MOST_BASINS = 16
MOST_TOWNS = 3


def refuse_no_level(thing, low, high):
    if not is_whole(thing, low, high):
        raise NoBasin(thing)


class Basin:
    """Holds from low to high cubes, has start of them first, and a gate below it."""

    def __init__(self, name, low, high, start, rain, gate):
        if not is_name(name):
            raise NoName(name)
        refuse_no_level(low, 0, HIGHEST)
        refuse_no_level(high, low, HIGHEST)
        refuse_no_level(start, low, high)
        refuse_no_level(rain, 0, MOST_RAIN)
        if not isinstance(gate, Gate):
            raise NoGate(gate)
        self.name = name
        self.low = low
        self.high = high
        self.start = start
        self.rain = rain
        self.gate = gate


class Town:
    """Draws its want from the basin of the told name, in a turn in which it is served."""

    def __init__(self, name, basin, want):
        if not is_name(name):
            raise NoName(name)
        if not is_name(basin):
            raise NoName(basin)
        if not is_whole(want, 1, MOST_WANT):
            raise NoTown(want)
        self.name = name
        self.basin = basin
        self.want = want


def are_unlike(names):
    return len(set(names)) == len(names)


def are_basins(thing):
    if not isinstance(thing, (list, tuple)) or not 1 <= len(thing) <= MOST_BASINS:
        return False
    if not all([isinstance(basin, Basin) for basin in thing]):
        return False
    return are_unlike([basin.name for basin in thing])


def are_towns(thing, basins):
    if not isinstance(thing, (list, tuple)) or len(thing) > MOST_TOWNS:
        return False
    if not all([isinstance(town, Town) for town in thing]):
        return False
    names = [basin.name for basin in basins]
    return are_unlike([town.name for town in thing]) and all([town.basin in names for town in thing])


class River:
    """A cloud, basins from the top down, and towns that draw from them."""

    def __init__(self, cloud, gain, basins, towns):
        if not is_whole(cloud, 0, MOST_CLOUD):
            raise NoCloud(cloud)
        if not is_whole(gain, 0, cloud):
            raise NoCloud(gain)
        if not are_basins(basins):
            raise NoRiver(basins)
        if not are_towns(towns, basins):
            raise NoRiver(towns)
        self.cloud = cloud
        self.gain = gain
        self.basins = tuple(basins)
        self.towns = tuple(towns)

    def place_of(self, name):
        """The number of the basin of this name, or None."""
        for place, basin in enumerate(self.basins):
            if basin.name == name:
                return place
        return None

    def beginning(self):
        """The standing in which each basin has its start and the cloud is full."""
        return (tuple([basin.start for basin in self.basins]), self.cloud)
