"""From which held standings all towns can be served again and again, and how the sky keeps one unpaid elsewhere."""

from weirwatch.errors import Lost, NoNumber, NotServed
from weirwatch.holding import found_by_rounds
from weirwatch.turns import town_paid
from weirwatch.words import is_whole


def is_kind(ends, kept):
    """Whether, whatever rain falls, no basin is broken and a standing that is kept comes."""
    return all([end is not None and kept[end] for end in ends])


def kind_places(by_place, kept):
    """The places of the choices that are kind to the standings that are kept."""
    return [place for place, ends in enumerate(by_place) if is_kind(ends, kept)]


def turns_to_town(standings, kept, kind, town):
    """For each standing, by its number, within how many turns the town can be paid, or None where it lacks it."""

    def nears(number, place, found):
        if standings.pays(number, place) == town:
            return True
        return all([found[end] is not None for end in standings.ends[number][place]])

    def comes(number, found):
        return kept[number] and any([nears(number, place, found) for place in kind[number]])

    return found_by_rounds(standings.many(), comes)


class Serving:
    """The served standings of a holding, and those that are held but not served."""

    def __init__(self, holding):
        self.holding = holding
        self.kept = [turns is None for turns in holding.lost]
        self.pairs = [None for turns in holding.lost]
        self.by_town = self.turns_by_town()
        lacking = self.lacking()
        rounds = 0
        while len(lacking) > 0:
            rounds += 1
            for number in lacking:
                self.kept[number] = False
                self.pairs[number] = (rounds, self.lacked_by(number)[0])
            self.by_town = self.turns_by_town()
            lacking = self.lacking()

    def turns_by_town(self):
        """For each town, in their order, the numbers by the standings that are kept now."""
        standings = self.holding.standings
        kind = [kind_places(by_place, self.kept) for by_place in standings.ends]
        return [turns_to_town(standings, self.kept, kind, town) for town in range(len(standings.river.towns))]

    def lacked_by(self, number):
        return [town for town, found in enumerate(self.by_town) if found[number] is None]

    def lacking(self):
        """The numbers of the kept standings that lack some town."""
        return [number for number, is_kept in enumerate(self.kept) if is_kept and len(self.lacked_by(number)) > 0]

    def served(self, standing):
        return self.kept[self.holding.standings.number_of(standing)]

    def unserved(self, standing):
        """The pair of a standing that is held but not served, else None."""
        return self.pairs[self.holding.standings.number_of(standing)]

    def turns_to(self, standing, town):
        """Within how many turns the town can be paid, or None where the standing is not served."""
        number = self.holding.standings.number_of(standing)
        if not is_whole(town, 0, len(self.by_town) - 1):
            raise NoNumber(town)
        return self.by_town[town][number]

    def serve(self, standing, town):
        """The first choice that pays the town or comes nearer to it, or None where the standing is not served."""
        if self.turns_to(standing, town) is None:
            return None
        number = self.holding.standings.number_of(standing)
        for place, choice in enumerate(self.holding.standings.choices()):
            if self.is_serving(number, place, town):
                return choice
        return None

    def is_serving(self, number, place, town):
        standings = self.holding.standings
        ends = standings.ends[number][place]
        if not is_kind(ends, self.kept):
            return False
        found = self.by_town[town]
        return standings.pays(number, place) == town or all([found[end] < found[number] for end in ends])

    def rain_against(self, standing, choice):
        """The first rain that keeps the pair's town unpaid, or brings a lesser pair, what is lost, or a break."""
        standings = self.holding.standings
        number = standings.number_of(standing)
        place = standings.place_of_choice(choice)
        pair = self.pairs[number]
        if pair is None:
            return None
        pays = standings.pays(number, place) == pair[1]
        return standings.first_rain(number, place, lambda end: self.is_against(end, pair, pays))

    def is_against(self, end, pair, pays):
        """Whether what comes is lost, or has a lesser pair, or the same one where its town isn't paid."""
        other = self.pairs[end]
        if other is None:
            return not self.kept[end]
        return other < pair or (other == pair and not pays)

    def serving_table(self):
        """All served standings, each with its number and its choice for each town."""
        row = [standing for standing in self.holding.standings.row if self.served(standing)]
        return dict([(standing, self.rows_by_town(standing)) for standing in row])

    def rows_by_town(self, standing):
        return [(self.turns_to(standing, town), self.serve(standing, town)) for town in range(len(self.by_town))]

    def unserved_table(self):
        """All standings with a pair, each with it and a dict of all choices, each with its rain."""
        row = [standing for standing in self.holding.standings.row if self.unserved(standing) is not None]
        return dict([(standing, (self.unserved(standing), self.rains_by_choice(standing))) for standing in row])

    def rains_by_choice(self, standing):
        return dict([(choice, self.rain_against(standing, choice)) for choice in self.holding.standings.choices()])


class TurnKeeper:
    """Waits for one town after the other, and tells choices by which each is paid again and again."""

    def __init__(self, serving):
        self.serving = serving
        self.waiting = 0

    def tell(self, standing):
        """The choice for the town that is waited for."""
        holding = self.serving.holding
        turns = holding.turns_left(standing)
        if turns is not None:
            raise Lost(turns)
        pair = self.serving.unserved(standing)
        if pair is not None:
            raise NotServed(pair)
        river = holding.standings.river
        if len(river.towns) == 0:
            return holding.choice_for(standing)
        choice = self.serving.serve(standing, self.waiting)
        if town_paid(river, standing, choice) == self.waiting:
            self.waiting = (self.waiting + 1) % len(river.towns)
        return choice
