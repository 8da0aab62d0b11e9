"""A river's standings, numbered and weighed, with gates that stick, and what comes behind each choice."""

from weirwatch.errors import NoChoice, NoNumber, NoStanding, NoStuck, TooMany
from weirwatch.turns import Turn, forced_rain, is_choice, is_standing, town_paid
from weirwatch.words import is_whole

MOST_WEIGHT = 4000


def is_setting_of(river, place, setting):
    if not is_whole(place, 0, len(river.basins) - 1):
        return False
    return is_whole(setting, 0, river.basins[place].gate.settings() - 1)


def is_stuck(river, thing):
    """Whether the thing tells gates that stick: a dict from numbers of basins to settings, or None."""
    if thing is None:
        return True
    if not isinstance(thing, dict):
        return False
    return all([is_setting_of(river, place, setting) for place, setting in thing.items()])


def is_choice_let(river, stuck, thing):
    """Whether the thing is a choice that the stuck gates let be."""
    if not is_choice(river, thing):
        return False
    return stuck is None or all([thing[0][place] == setting for place, setting in stuck.items()])


def settings_let(river, stuck):
    """For each gate the settings that it can have: all of its own, or the one at which it sticks."""
    let = [list(range(basin.gate.settings())) for basin in river.basins]
    if stuck is not None:
        for place, setting in stuck.items():
            let[place] = [setting]
    return let


def product(numbers):
    result = 1
    for number in numbers:
        result *= number
    return result


def levels_many(basin):
    return basin.high - basin.low + 1


def standings_many(river):
    return product([levels_many(basin) for basin in river.basins]) * (river.cloud + 1)


def choices_many(river, stuck):
    return product([len(settings) for settings in settings_let(river, stuck)]) * (len(river.towns) + 1)


def rain_rows_many(river):
    """How many rows of rain the cloud can hold: counted by their sums, as a long river has too many to make."""
    with_sum = [1] + [0 for cube in range(river.cloud)]
    for basin in river.basins:
        with_sum = [sum(with_sum[max(cubes - basin.rain, 0):cubes + 1]) for cubes in range(river.cloud + 1)]
    return sum(with_sum)


def weigh(river, stuck=None):
    """The weight of the river, with the gates that stick."""
    if not is_stuck(river, stuck):
        raise NoStuck(stuck)
    return standings_many(river) * choices_many(river, stuck) * rain_rows_many(river)


def refuse_heavy(heft):
    if heft > MOST_WEIGHT:
        raise TooMany(heft)


def longer_rows(rows, numbers):
    """Each row with each of the numbers put behind it; rows and numbers that rise make rows that rise."""
    longer = []
    for row in rows:
        longer.extend([row + (number,) for number in numbers])
    return longer


def choices_let(river, stuck):
    """All choices that the stuck gates let be, in their order."""
    rows = [()]
    for settings in settings_let(river, stuck):
        rows = longer_rows(rows, settings)
    towns = [None] + list(range(len(river.towns)))
    let = []
    for row in rows:
        let.extend([(row, town) for town in towns])
    return let


def rains_at(river, wet):
    """All rains where the cloud has so many cubes, in their order."""
    rows = [()]
    for basin in river.basins:
        longer = longer_rows(rows, list(range(basin.rain + 1)))
        # Left out at once: of all rows of a long river there would be too many.
        rows = [row for row in longer if sum(row) <= wet]
    least = forced_rain(river, wet)
    return [row for row in rows if sum(row) >= least]


def number_by(river, standing):
    """The number of the standing: its wet counts by ones, then each basin's level by more, from the top down."""
    number = standing[1]
    step = river.cloud + 1
    for basin, level in zip(river.basins, standing[0]):
        number += step * (level - basin.low)
        step *= levels_many(basin)
    return number


def standing_by(river, number):
    """The standing of the number."""
    rest = number // (river.cloud + 1)
    levels = []
    for basin in river.basins:
        levels.append(basin.low + rest % levels_many(basin))
        rest = rest // levels_many(basin)
    return (tuple(levels), number % (river.cloud + 1))


def lead(river, standing, choice, rain):
    """The standing to which the rain leads, or None where a basin is broken."""
    turn = Turn(river, standing, choice, rain)
    return turn.standing() if len(turn.broken) == 0 else None


class Standings:
    """All standings of a river in a row, with the choices that the stuck gates let be."""

    def __init__(self, river, stuck=None):
        self.heft = weigh(river, stuck)
        refuse_heavy(self.heft)
        self.river = river
        self.row = [standing_by(river, number) for number in range(standings_many(river))]
        self.listed = choices_let(river, stuck)
        self.places = dict([(choice, place) for place, choice in enumerate(self.listed)])
        # By what the cloud has, as nothing else of a standing tells which rains there are.
        self.falls = [rains_at(river, wet) for wet in range(river.cloud + 1)]
        self.ends = [self.ends_by_place(standing) for standing in self.row]

    def ends_by_place(self, standing):
        return [self.ends_by_rain(standing, choice) for choice in self.listed]

    def ends_by_rain(self, standing, choice):
        """For each rain there, in their order, the number of the standing that comes, None where a basin is broken."""
        led = [lead(self.river, standing, choice, rain) for rain in self.falls[standing[1]]]
        return [None if end is None else number_by(self.river, end) for end in led]

    def many(self):
        return len(self.row)

    def weight(self):
        return self.heft

    def choices(self):
        """The choices in their order."""
        return list(self.listed)

    def rains(self, wet):
        """The rains at a standing where the cloud has so many cubes, in their order."""
        if not is_whole(wet, 0, self.river.cloud):
            raise NoNumber(wet)
        return list(self.falls[wet])

    def number_of(self, standing):
        if not is_standing(self.river, standing):
            raise NoStanding(standing)
        return number_by(self.river, standing)

    def standing_at(self, number):
        if not is_whole(number, 0, len(self.row) - 1):
            raise NoNumber(number)
        return self.row[number]

    def place_of_choice(self, choice):
        """The place of the choice; refused is what is none of the choices."""
        place = self.places.get(choice) if is_choice(self.river, choice) else None
        if place is None:
            raise NoChoice(choice)
        return place

    def refuse_no_place(self, number, place):
        if not is_whole(number, 0, len(self.row) - 1):
            raise NoNumber(number)
        if not is_whole(place, 0, len(self.listed) - 1):
            raise NoNumber(place)

    def followers(self, number, place):
        """The numbers of all standings that come behind some rain, rising, each once."""
        self.refuse_no_place(number, place)
        return sorted(set([end for end in self.ends[number][place] if end is not None]))

    def breaks(self, number, place):
        """Whether some rain breaks a basin."""
        self.refuse_no_place(number, place)
        return None in self.ends[number][place]

    def pays(self, number, place):
        """The number of the town that is paid, or None."""
        self.refuse_no_place(number, place)
        return town_paid(self.river, self.row[number], self.listed[place])

    def first_rain(self, number, place, is_bad):
        """The first rain that breaks a basin or leads to a standing whose number is a bad one, or None."""
        for rain, end in zip(self.falls[self.row[number][1]], self.ends[number][place]):
            if end is None or is_bad(end):
                return rain
        return None
