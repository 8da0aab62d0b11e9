"""Which standings a keeper can hold for ever, whatever rain falls, and how the sky breaks the others."""

from weirwatch.standings import Standings


def found_by_rounds(many, comes):
    """For each number below many the round, from 1 on, in which it comes, or None.

    A number comes in a round if comes(number, found) is so, by what was found in the rounds ahead.
    """
    found = [None for number in range(many)]
    rounds = 0
    fresh = [number for number in range(many) if comes(number, found)]
    while len(fresh) > 0:
        rounds += 1
        for number in fresh:
            found[number] = rounds
        fresh = [number for number in range(many) if found[number] is None and comes(number, found)]
    return found


def lost_in(standings):
    """For each standing, by its number, within how many turns it is lost, or None where it is held."""

    def comes(number, found):
        return not any([is_safe(ends, found) for ends in standings.ends[number]])

    return found_by_rounds(standings.many(), comes)


def is_safe(ends, lost):
    """Whether no rain breaks a basin or leads to what is lost."""
    return all([end is not None and lost[end] is None for end in ends])


class Holding:
    """The held and the lost standings of a river, with the choices that the stuck gates let be."""

    def __init__(self, river, stuck=None):
        self.standings = Standings(river, stuck)
        self.lost = lost_in(self.standings)

    def held(self, standing):
        return self.turns_left(standing) is None

    def turns_left(self, standing):
        """Within how many turns the sky can break a basin, or None where the standing is held."""
        return self.lost[self.standings.number_of(standing)]

    def good_choices(self, standing):
        """All choices behind which, whatever rain falls, no basin is broken and a held standing comes."""
        number = self.standings.number_of(standing)
        return [choice for choice, ends in zip(self.standings.choices(), self.standings.ends[number])
                if is_safe(ends, self.lost)]

    def choice_for(self, standing):
        """The first good choice, or None."""
        good = self.good_choices(standing)
        return good[0] if len(good) > 0 else None

    def rain_for(self, standing, choice):
        """The first rain that brings a lost standing nearer to a break, or None where the standing is held."""
        number = self.standings.number_of(standing)
        place = self.standings.place_of_choice(choice)
        turns = self.lost[number]
        if turns is None:
            return None
        return self.standings.first_rain(number, place, lambda end: self.is_lost_within(end, turns - 1))

    def is_lost_within(self, number, turns):
        return self.lost[number] is not None and self.lost[number] <= turns

    def held_many(self):
        return self.lost.count(None)

    def keeper_table(self):
        """All held standings, each with its choice."""
        row = [standing for standing in self.standings.row if self.held(standing)]
        return dict([(standing, self.choice_for(standing)) for standing in row])

    def sky_table(self):
        """All lost standings, each with its number and a dict of all choices, each with its rain."""
        row = [standing for standing in self.standings.row if not self.held(standing)]
        return dict([(standing, (self.turns_left(standing), self.rains_by_choice(standing))) for standing in row])

    def rains_by_choice(self, standing):
        return dict([(choice, self.rain_for(standing, choice)) for choice in self.standings.choices()])
