"""Looks through tables, by one turn alone: whatever thing is handed in, whether it is a right one."""

from weirwatch.standings import choices_many, is_choice_let, lead, rains_at
from weirwatch.turns import is_pair, is_rain, is_standing, town_paid
from weirwatch.words import is_whole


def is_from_one(thing):
    # Bounded by itself, as there is no greatest one.
    return is_whole(thing, 1, thing)


def has_standings(river, table):
    """Whether the table is a dict of which each key is a standing."""
    return isinstance(table, dict) and all([is_standing(river, key) for key in table])


def leads(river, standing, choice):
    """The standings to which the rains there lead, None for each that breaks a basin."""
    return [lead(river, standing, choice, rain) for rain in rains_at(river, standing[1])]


def leads_to_keys(river, standing, choice, table):
    # Where a basin is broken there is None, which is no standing, and so no key.
    return all([end in table for end in leads(river, standing, choice)])


def is_keeper_table(river, stuck, table):
    """Whether each standing has a choice by which every rain leads to a key."""
    if not has_standings(river, table):
        return False
    return all([is_choice_let(river, stuck, choice) and leads_to_keys(river, standing, choice, table)
                for standing, choice in table.items()])


def are_answers(river, stuck, standing, thing):
    """Whether the thing is a dict of which the keys are just all choices, each with a rain at the standing."""
    if not isinstance(thing, dict) or len(thing) != choices_many(river, stuck):
        return False
    return all([is_choice_let(river, stuck, choice) and is_rain(river, standing, rain)
                for choice, rain in thing.items()])


def has_answers(river, stuck, table, is_head):
    """Whether each standing has a tuple of what is_head tells to be right, and a dict of a rain for each choice."""
    if not has_standings(river, table):
        return False
    return all([is_pair(value) and is_head(value[0]) and are_answers(river, stuck, standing, value[1])
                for standing, value in table.items()])


def is_sky_table(river, stuck, table):
    """Whether by each rain a basin is broken, or a key with a lesser number comes."""
    if not has_answers(river, stuck, table, is_from_one):
        return False
    return all([breaks_down(river, table, standing) for standing in table])


def breaks_down(river, table, standing):
    number = table[standing][0]
    ends = [lead(river, standing, choice, rain) for choice, rain in table[standing][1].items()]
    return all([end is None or (end in table and table[end][0] < number) for end in ends])


def is_serving_row(river, stuck, thing):
    return is_pair(thing) and is_from_one(thing[0]) and is_choice_let(river, stuck, thing[1])


def are_serving_rows(river, stuck, thing):
    """Whether the thing is a list of tuples (number, choice), one for each town."""
    if not isinstance(thing, list) or len(thing) != len(river.towns):
        return False
    return all([is_serving_row(river, stuck, row) for row in thing])


def is_serving_table(river, stuck, table):
    """Whether by each choice every rain leads to a key, and its town is paid or comes nearer."""
    if not has_standings(river, table):
        return False
    if not all([are_serving_rows(river, stuck, rows) for rows in table.values()]):
        return False
    return all([serves_all(river, table, standing) for standing in table])


def serves_all(river, table, standing):
    return all([serves(river, table, standing, town) for town in range(len(river.towns))])


def serves(river, table, standing, town):
    number = table[standing][town][0]
    choice = table[standing][town][1]
    if not leads_to_keys(river, standing, choice, table):
        return False
    if town_paid(river, standing, choice) == town:
        return True
    return all([table[end][town][0] < number for end in leads(river, standing, choice)])


def is_town_pair(river, thing):
    """Whether the thing is a tuple of a round and the number of a town."""
    return is_pair(thing) and is_from_one(thing[0]) and is_whole(thing[1], 0, len(river.towns) - 1)


def is_unserved_table(river, stuck, sky_table, table):
    """Whether, beside a right sky's table of other standings, each rain keeps the pair's town unpaid or is worse."""
    if not is_sky_table(river, stuck, sky_table):
        return False
    if not has_answers(river, stuck, table, lambda head: is_town_pair(river, head)):
        return False
    if any([standing in sky_table for standing in table]):
        return False
    return all([keeps_unpaid(river, sky_table, table, standing) for standing in table])


def keeps_unpaid(river, sky_table, table, standing):
    return all([is_against(river, sky_table, table, standing, choice) for choice in table[standing][1]])


def is_against(river, sky_table, table, standing, choice):
    pair = table[standing][0]
    end = lead(river, standing, choice, table[standing][1][choice])
    if end is None or end in sky_table:
        return True
    if end not in table:
        return False
    other = table[end][0]
    return other < pair or (other == pair and town_paid(river, standing, choice) != pair[1])
