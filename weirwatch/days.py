"""Days on which a river goes through its turns, and gates stick and are mended."""

from weirwatch.errors import Broken, NoChoice, NoStuck
from weirwatch.guard import Guard
from weirwatch.holding import Holding
from weirwatch.standings import is_choice_let, refuse_heavy, weigh
from weirwatch.turns import turned
from weirwatch.words import is_whole


class Days:
    """A river at the standing of now, with the gates that stick now and the turns that were done."""

    def __init__(self, river):
        refuse_heavy(weigh(river))
        self.river = river
        self.stuck = {}
        self.turns = []
        # Found when it is first asked for, and kept until a gate sticks or is mended, as it takes long to find.
        self.holding = None

    def is_place(self, thing):
        return is_whole(thing, 0, len(self.river.basins) - 1)

    def stick(self, place):
        """The gate sticks at the setting of the last turn, or at setting 0 where there was none yet."""
        if not self.is_place(place) or place in self.stuck:
            raise NoStuck(place)
        self.stuck[place] = self.turns[-1].choice[0][place] if len(self.turns) > 0 else 0
        self.holding = None

    def mend(self, place):
        """The gate sticks no more."""
        if not self.is_place(place) or place not in self.stuck:
            raise NoStuck(place)
        self.stuck.pop(place)
        self.holding = None

    def broken_now(self):
        """The numbers of the basins that the last turn broke."""
        return self.turns[-1].broken if len(self.turns) > 0 else ()

    def refuse_broken(self):
        if len(self.broken_now()) > 0:
            raise Broken(self.broken_now())

    def turn(self, choice, rain):
        """Does the turn of the choice and the rain, and tells it."""
        self.refuse_broken()
        if not is_choice_let(self.river, self.stuck, choice):
            raise NoChoice(choice)
        done = turned(self.river, self.standing(), choice, rain)
        self.turns.append(done)
        return done

    def holding_now(self):
        """The holding by the gates that stick now."""
        if self.holding is None:
            self.holding = Holding(self.river, self.stuck)
        return self.holding

    def guarded(self, choice):
        """What is given for a hand's choice at the standing of now, by the gates that stick now."""
        self.refuse_broken()
        return Guard(self.holding_now()).given(self.standing(), choice)

    def held(self):
        """Whether the standing of now is held by the gates that stick now."""
        return len(self.broken_now()) == 0 and self.holding_now().held(self.standing())

    def standing(self):
        """The standing of now; of a turn that broke a basin what it tells."""
        return self.turns[-1].standing() if len(self.turns) > 0 else self.river.beginning()

    def stuck_now(self):
        """The gates that stick now with their settings, in the order of the basins."""
        return dict([(place, self.stuck[place]) for place in sorted(self.stuck)])

    def log(self):
        """All turns that were done."""
        return list(self.turns)
