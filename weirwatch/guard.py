"""Lets a hand at the gates do as it likes, as long as the river stays held."""

from weirwatch.errors import Lost
from weirwatch.turns import refuse_no_choice


def changes(one, other):
    """In how many places two choices of one river differ: in settings, and in the town or none."""
    unlike = [setting for setting, wanted in zip(one[0], other[0]) if setting != wanted]
    return len(unlike) + (0 if one[1] == other[1] else 1)


class Guard:
    """Lets the good choices of a holding be, and gives one of them in the place of any other."""

    def __init__(self, holding):
        self.holding = holding

    def allowed(self, standing, choice):
        """Whether, whatever rain falls behind the choice, no basin is broken and a held standing comes."""
        refuse_no_choice(self.holding.standings.river, standing, choice)
        return choice in self.holding.good_choices(standing)

    def given(self, standing, choice):
        """The choice itself where it is allowed, else the first of the good ones with the fewest changes."""
        if self.allowed(standing, choice):
            return choice
        turns = self.holding.turns_left(standing)
        if turns is not None:
            raise Lost(turns)
        return min(self.holding.good_choices(standing), key=lambda good: changes(good, choice))


def guarded(guard, hand):
    """The keeper that asks the hand, and tells what the guard gives for its choice."""

    def keeper(standing, k):
        return guard.given(standing, hand(standing, k))

    return keeper
