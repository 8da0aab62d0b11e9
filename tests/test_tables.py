"""Points 4, 5, 8 and 61 to 66: tables of all four kinds, and whatever other thing, looked through."""

import copy
import functools
import itertools
import unittest

from things import (
    FAR, all_rains, all_standings, any_things, ends_in, let_choices, light_rivers, mill_river, no_choices, no_numbers,
    no_rains, no_standings, watched_ways,
)
from weirwatch.holding import Holding
from weirwatch.rivertext import read_river
from weirwatch.serving import Serving
from weirwatch.standings import weigh
from weirwatch.tables import is_keeper_table, is_serving_table, is_sky_table, is_unserved_table
from weirwatch.turns import paid_by


def is_from_one(thing):
    return type(thing) is int and thing >= 1


class Looker:
    """Looks through tables by the document's words, with all standings, choices and rains as they are shown."""

    def __init__(self, river, stuck):
        self.river = river
        self.standings = {repr(standing) for standing in all_standings(river)}
        self.choices = {repr(choice) for choice in let_choices(river, stuck)}
        self.rains = [{repr(rain) for rain in all_rains(river, wet)} for wet in range(river.cloud + 1)]

    def has_keys(self, table):
        return type(table) is dict and {repr(key) for key in table} <= self.standings

    def ends(self, standing, choice):
        return [end for rain, end in ends_in(self.river)[standing, choice]]

    def leads(self, standing, choice, rain):
        return dict(ends_in(self.river)[standing, choice])[rain]

    def pays(self, standing, choice, town):
        return choice[1] == town and paid_by(self.river, standing, choice)

    def is_choice(self, thing):
        return repr(thing) in self.choices

    def keeper(self, table):
        return self.has_keys(table) and all(
            self.is_choice(choice) and all(end in table for end in self.ends(standing, choice))
            for standing, choice in table.items()
        )

    def has_rains(self, standing, thing):
        return type(thing) is dict and {repr(choice) for choice in thing} == self.choices and all(
            repr(rain) in self.rains[standing[1]] for rain in thing.values()
        )

    def has_rows(self, table, is_head):
        return self.has_keys(table) and all(
            type(row) is tuple and len(row) == 2 and is_head(row[0]) and self.has_rains(standing, row[1])
            for standing, row in table.items()
        )

    def sky(self, table):
        if not self.has_rows(table, is_from_one):
            return False
        for standing, (number, rains) in table.items():
            ends = [self.leads(standing, choice, rain) for choice, rain in rains.items()]
            if any(end is not None and (end not in table or table[end][0] >= number) for end in ends):
                return False
        return True

    def has_lists(self, table):
        return self.has_keys(table) and all(
            type(rows) is list and len(rows) == len(self.river.towns) and all(
                type(row) is tuple and len(row) == 2 and is_from_one(row[0]) and self.is_choice(row[1]) for row in rows
            )
            for rows in table.values()
        )

    def serving(self, table):
        if not self.has_lists(table):
            return False
        for standing, rows in table.items():
            for town, (number, choice) in enumerate(rows):
                ends = self.ends(standing, choice)
                if not all(end in table for end in ends):
                    return False
                if not self.pays(standing, choice, town) and any(table[end][town][0] >= number for end in ends):
                    return False
        return True

    def is_pair(self, thing):
        if type(thing) is not tuple or len(thing) != 2:
            return False
        return is_from_one(thing[0]) and repr(thing[1]) in [repr(town) for town in range(len(self.river.towns))]

    def unserved(self, sky_table, table):
        if not self.sky(sky_table) or not self.has_rows(table, self.is_pair) or set(sky_table) & set(table):
            return False
        for standing, (pair, rains) in table.items():
            for choice, rain in rains.items():
                end = self.leads(standing, choice, rain)
                worse = end is None or end in sky_table or end in table and table[end][0] < pair
                same = end in table and table[end][0] == pair and not self.pays(standing, choice, pair[1])
                if not worse and not same:
                    return False
        return True


class Way:
    """A river with stuck gates, its four tables, and who looks through others."""

    def __init__(self, river, stuck):
        self.river, self.stuck, self.looker = river, stuck, Looker(river, stuck)
        holding = Holding(river, stuck)
        serving = Serving(holding)
        self.keeper_table, self.sky_table = holding.keeper_table(), holding.sky_table()
        self.serving_table, self.unserved_table = serving.serving_table(), serving.unserved_table()


@functools.cache
def ways():
    return [Way(river, stuck) for river, stuck in watched_ways()]


@functools.cache
def light_ways():
    """Those whose tables are so small that they can be spoiled in each place."""
    return [way for way in ways() if weigh(way.river, way.stuck) <= 200]


def put(table, key, value):
    """The table with this value there, and nothing else changed."""
    return {**table, key: value}


def without(table, key):
    return {other: value for other, value in table.items() if other != key}


def few(things, many=6):
    """Some of the things, from all over."""
    things = list(things)
    return things[::max(len(things) // many, 1)]


def hashable(things):
    for thing in things:
        try:
            hash(thing)
        except TypeError:
            continue
        yield thing


class Tables(unittest.TestCase):
    def right(self, told):
        self.assertIs(told, True)

    def wrong(self, told):
        self.assertIs(told, False)

    def check_keeper(self, way, table):
        told = way.looker.keeper(table)
        self.assertIs(is_keeper_table(way.river, way.stuck, table), told)
        return told

    def check_sky(self, way, table):
        told = way.looker.sky(table)
        self.assertIs(is_sky_table(way.river, way.stuck, table), told)
        return told

    def check_serving(self, way, table):
        told = way.looker.serving(table)
        self.assertIs(is_serving_table(way.river, way.stuck, table), told)
        return told

    def check_unserved(self, way, sky_table, table):
        told = way.looker.unserved(sky_table, table)
        self.assertIs(is_unserved_table(way.river, way.stuck, sky_table, table), told)
        return told

    def check_all(self, way, thing):
        return [
            self.check_keeper(way, thing), self.check_sky(way, thing), self.check_serving(way, thing),
            self.check_unserved(way, {}, thing), self.check_unserved(way, thing, {}), self.check_unserved(way, thing, thing),
        ]


class Told(Tables):
    def test_the_tables_that_are_told_are_right(self):
        kinds = set()
        for way in ways():
            self.right(is_keeper_table(way.river, way.stuck, way.keeper_table))
            self.right(is_sky_table(way.river, way.stuck, way.sky_table))
            self.right(is_serving_table(way.river, way.stuck, way.serving_table))
            self.right(is_unserved_table(way.river, way.stuck, way.sky_table, way.unserved_table))
            tables = (way.keeper_table, way.sky_table, way.serving_table, way.unserved_table)
            kinds.add(tuple(len(table) > 0 for table in tables))
        self.assertGreater(len(kinds), 4)

    def test_the_dict_without_keys_is_right(self):
        for way in ways():
            self.assertEqual(self.check_all(way, {}), [True] * 6)

    def test_a_table_of_another_kind_is_wrong(self):
        for way in ways():
            for table in (way.keeper_table, way.sky_table, way.serving_table, way.unserved_table):
                self.check_all(way, table)

    def test_other_things_are_wrong(self):
        for way in ways():
            if way.stuck != {}:
                continue
            for thing in any_things() + [way.river.beginning(), [way.keeper_table], list(way.sky_table), set()]:
                told = self.check_all(way, thing)
                self.assertEqual(told, [thing == {}] * 6, repr(thing))
                if thing != {}:
                    self.wrong(is_unserved_table(way.river, way.stuck, thing, way.unserved_table))

    def test_things_are_not_changed(self):
        for way in ways():
            tables = [way.keeper_table, way.sky_table, way.serving_table, way.unserved_table, way.stuck]
            before = copy.deepcopy(tables)
            self.check_all(way, way.sky_table)
            self.check_keeper(way, way.keeper_table)
            self.check_serving(way, way.serving_table)
            self.check_unserved(way, way.sky_table, way.unserved_table)
            self.assertEqual(tables, before)
            self.assertEqual([list(table or ()) for table in tables], [list(table or ()) for table in before])

    def test_keys_that_are_no_standings(self):
        for river in light_rivers():
            way = Way(river, None)
            rows = (let_choices(river, None)[0], (1, {}), [], ((1, 0), {}))
            for thing in hashable(no_standings(river, river.beginning())):
                for row in rows:
                    self.wrong(is_keeper_table(river, None, {thing: row}))
                    self.wrong(is_sky_table(river, None, {thing: row}))
                    self.wrong(is_serving_table(river, None, {thing: row}))
                    self.wrong(is_unserved_table(river, None, {}, {thing: row}))
                self.wrong(is_keeper_table(river, None, put(without(way.keeper_table, thing), thing, rows[0])))

    def test_a_key_that_is_no_standing_beside_right_ones(self):
        for way in ways():
            levels, wet = all_standings(way.river)[0]
            for key in ((levels, way.river.cloud + 1), (levels + (0,), wet), levels, None):
                for table in (way.keeper_table, way.sky_table, way.serving_table, way.unserved_table):
                    spoiled = put(table, key, next(iter(table.values()), None))
                    self.assertEqual(self.check_all(way, spoiled), [False] * 6)
                    self.wrong(is_unserved_table(way.river, way.stuck, way.sky_table, spoiled))

    def test_truths_in_the_place_of_numbers(self):
        river = read_river("cloud 1 1\nbasin a 0 3 0 1 step 0 1\ntown x a 1")
        way = Way(river, None)
        for standing, choice in way.keeper_table.items():
            settings, town = choice
            spoiled = put(way.keeper_table, standing, ((bool(settings[0]),), town))
            self.assertIs(self.check_keeper(way, spoiled), False)
            for key in ((bool(standing[0][0]),), standing[1]), (standing[0], bool(standing[1])):
                if key == standing:
                    # Equal to the standing, so that it finds it, yet none.
                    self.assertIs(self.check_keeper(way, put(without(way.keeper_table, standing), key, choice)), False)


class Keeper(Tables):
    def test_each_choice_in_each_place(self):
        told = []
        for way in light_ways():
            for standing in way.keeper_table:
                for choice in let_choices(way.river, None):
                    told.append(self.check_keeper(way, put(way.keeper_table, standing, choice)))
        self.assertEqual(set(told), {True, False})

    def test_each_key_left_out_or_added(self):
        told = []
        for way in light_ways():
            for standing in way.keeper_table:
                told.append(self.check_keeper(way, without(way.keeper_table, standing)))
            for standing in way.sky_table:
                for choice in let_choices(way.river, way.stuck):
                    self.wrong(is_keeper_table(way.river, way.stuck, put(way.keeper_table, standing, choice)))
        self.assertEqual(set(told), {True, False})

    def test_what_is_no_choice(self):
        for river in light_rivers():
            way = Way(river, None)
            for standing, choice in few(way.keeper_table.items(), 2):
                for thing in no_choices(river, choice):
                    self.wrong(is_keeper_table(river, None, put(way.keeper_table, standing, thing)))

    def test_every_table_of_a_tiny_river(self):
        river = read_river("cloud 1 1\nbasin a 0 2 0 1 step 0 1")
        for stuck in (None, {0: 0}, {0: 1}):
            way = Way(river, stuck)
            right = []
            for rows in itertools.product([None] + let_choices(river, None), repeat=6):
                table = {standing: row for standing, row in zip(all_standings(river), rows) if row is not None}
                if self.check_keeper(way, table):
                    right.append(set(table))
            self.assertEqual(set().union(*right), set(way.keeper_table))


class Sky(Tables):
    def test_each_rain_in_each_place(self):
        told = []
        for way in light_ways():
            for standing, (number, rains) in few(way.sky_table.items(), 8):
                for choice, rain in itertools.product(rains, all_rains(way.river, standing[1])):
                    table = put(way.sky_table, standing, (number, put(rains, choice, rain)))
                    told.append(self.check_sky(way, table))
        self.assertEqual(set(told), {True, False})

    def test_other_numbers(self):
        told = []
        for way in light_ways():
            for standing, (number, rains) in few(way.sky_table.items(), 8):
                for other in (number - 1, number + 1, 2, FAR, 0, -1):
                    told.append(self.check_sky(way, put(way.sky_table, standing, (other, rains))))
            for scale in (2, FAR // 10):
                table = {standing: (number * scale, rains) for standing, (number, rains) in way.sky_table.items()}
                self.right(is_sky_table(way.river, way.stuck, table))
            table = {standing: (max(number - 1, 1), rains) for standing, (number, rains) in way.sky_table.items()}
            self.check_sky(way, table)
        self.assertEqual(set(told), {True, False})

    def test_what_is_no_number(self):
        for way in few(way for way in light_ways() if len(way.sky_table) > 0):
            for standing, (number, rains) in few(way.sky_table.items(), 2):
                for thing in no_numbers():
                    self.wrong(is_sky_table(way.river, way.stuck, put(way.sky_table, standing, (thing, rains))))

    def test_each_key_left_out(self):
        told = []
        for way in light_ways():
            for standing in way.sky_table:
                told.append(self.check_sky(way, without(way.sky_table, standing)))
            for most in range(5):
                self.right(is_sky_table(way.river, way.stuck, {
                    standing: row for standing, row in way.sky_table.items() if row[0] <= most
                }))
        self.assertEqual(set(told), {True, False})

    def test_each_choice_left_out_or_added(self):
        for way in light_ways():
            for standing, (number, rains) in few(way.sky_table.items(), 4):
                for choice in let_choices(way.river, None):
                    added = put(rains, choice, all_rains(way.river, standing[1])[0])
                    for other in (without(rains, choice), added):
                        table = put(way.sky_table, standing, (number, other))
                        self.assertLessEqual(self.check_sky(way, table), set(other) == set(rains))

    def test_a_choice_that_is_none_in_the_place_of_another(self):
        for river in light_rivers():
            way = Way(river, None)
            for standing, (number, rains) in few(way.sky_table.items(), 1):
                choice = let_choices(river, None)[-1]
                for thing in hashable(no_choices(river, choice)):
                    other = put(without(without(rains, choice), thing), thing, rains[choice])
                    self.wrong(is_sky_table(river, None, put(way.sky_table, standing, (number, other))))
                    other = put(without(rains, thing), thing, rains[choice])
                    self.wrong(is_sky_table(river, None, put(way.sky_table, standing, (number, other))))

    def test_what_is_no_rain(self):
        for way in few(way for way in light_ways() if len(way.sky_table) > 0):
            for standing, (number, rains) in few(way.sky_table.items(), 2):
                choice = list(rains)[-1]
                for thing in no_rains(way.river, standing[1], rains[choice]):
                    table = put(way.sky_table, standing, (number, put(rains, choice, thing)))
                    self.wrong(is_sky_table(way.river, way.stuck, table))

    def test_wrong_forms_of_rows(self):
        for way in few(way for way in light_ways() if len(way.sky_table) > 0):
            for standing, (number, rains) in few(way.sky_table.items(), 3):
                rows = [
                    [number, rains], (number,), (rains,), (number, rains, rains), (rains, number), number, rains, None, (),
                    (number, list(rains.items())), (number, tuple(rains)), (number, None), (number, {}), {number: rains},
                    ((number, rains),), (str(number), rains), ((number,), rains), ((number, 0), rains),
                ]
                for row in rows + any_things():
                    self.wrong(is_sky_table(way.river, way.stuck, put(way.sky_table, standing, row)))

    def test_every_table_of_a_tiny_river(self):
        river = read_river("cloud 1 1\nbasin a 0 1 0 1 step 0")
        way = Way(river, None)
        choice = ((0,), None)
        options = [[None] + [(number, {choice: rain}) for number in range(1, 5) for rain in all_rains(river, wet)]
                   for levels, wet in all_standings(river)]
        right = 0
        for rows in itertools.product(*options):
            table = {standing: row for standing, row in zip(all_standings(river), rows) if row is not None}
            if self.check_sky(way, table):
                right += 1
                self.assertTrue(all(table[standing][0] >= way.sky_table[standing][0] for standing in table))
        self.assertGreater(right, 4)


class ServingTable(Tables):
    def test_each_choice_in_each_place(self):
        told = []
        for way in light_ways():
            for standing, rows in few(way.serving_table.items(), 8):
                for town, choice in itertools.product(range(len(rows)), let_choices(way.river, None)):
                    row = (rows[town][0], choice)
                    table = put(way.serving_table, standing, rows[:town] + [row] + rows[town + 1:])
                    told.append(self.check_serving(way, table))
        self.assertEqual(set(told), {True, False})

    def test_other_numbers(self):
        told = []
        for way in light_ways():
            for standing, rows in few(way.serving_table.items(), 8):
                for town, (number, choice) in enumerate(rows):
                    for other in (number - 1, number + 1, 2, FAR, 0, -1):
                        others = rows[:town] + [(other, choice)] + rows[town + 1:]
                        told.append(self.check_serving(way, put(way.serving_table, standing, others)))
            table = {standing: [(7 * number, choice) for number, choice in rows]
                     for standing, rows in way.serving_table.items()}
            self.right(is_serving_table(way.river, way.stuck, table))
            table = {standing: [(1, choice) for number, choice in rows] for standing, rows in way.serving_table.items()}
            told.append(self.check_serving(way, table))
        self.assertEqual(set(told), {True, False})

    def test_each_key_left_out_or_added(self):
        told = []
        for way in light_ways():
            for standing in way.serving_table:
                told.append(self.check_serving(way, without(way.serving_table, standing)))
            for standing in few(list(way.sky_table) + list(way.unserved_table)):
                for choice in let_choices(way.river, way.stuck):
                    rows = [(FAR, choice) for town in way.river.towns]
                    added = self.check_serving(way, put(way.serving_table, standing, rows))
                    # Where there are no towns nothing is shown.
                    self.assertIs(added, way.river.towns == ())
        self.assertEqual(set(told), {True, False})

    def test_each_list_with_its_rows_in_another_order(self):
        told = []
        for way in light_ways():
            for standing, rows in way.serving_table.items():
                told.append(self.check_serving(way, put(way.serving_table, standing, rows[::-1])))
        self.assertEqual(set(told), {True, False})

    def test_wrong_forms(self):
        for way in few(way for way in light_ways() if len(way.serving_table) > 0 and len(way.river.towns) > 0):
            for standing, rows in few(way.serving_table.items(), 2):
                number, choice = rows[0]
                first = [
                    [number, choice], (number,), (choice,), (number, choice, None), (choice, number), number, choice, None,
                    (), ((number, choice),), {number: choice}, (str(number), choice), (True, choice), (number, None),
                ]
                first += [(thing, choice) for thing in no_numbers()]
                first += [(number, thing) for thing in no_choices(way.river, choice)]
                wrong = [[row] + rows[1:] for row in first]
                wrong += [tuple(rows), rows + rows[-1:], rows[1:], rows[:-1], [rows], dict(enumerate(rows)), rows[0]]
                for thing in wrong + any_things():
                    self.wrong(is_serving_table(way.river, way.stuck, put(way.serving_table, standing, thing)))

    def test_without_towns_the_lists_have_nothing_in_them(self):
        river = read_river("cloud 1 1\nbasin a 0 3 0 1 step 0")
        for standing in all_standings(river):
            self.right(is_serving_table(river, None, {standing: []}))
            for thing in [(), {}, None, [()], [[]], [(1, ((0,), None))], 0, ""]:
                self.wrong(is_serving_table(river, None, {standing: thing}))

    def test_every_table_of_a_tiny_river(self):
        for text in ("cloud 1 1\nbasin a 0 1 0 1 step 0\ntown x a 1", "cloud 1 0\nbasin a 0 1 0 1 step 1\ntown x a 1"):
            river = read_river(text)
            way = Way(river, None)
            options = [None] + [[(number, choice)] for number in (1, 2, 3) for choice in let_choices(river, None)]
            right = []
            for rows in itertools.product(options, repeat=4):
                table = {standing: row for standing, row in zip(all_standings(river), rows) if row is not None}
                if self.check_serving(way, table):
                    right.append(set(table))
                    for standing, row in table.items():
                        self.assertGreaterEqual(row[0][0], way.serving_table[standing][0][0])
            self.assertEqual(set().union(*right), set(way.serving_table))


class Unserved(Tables):
    def check(self, way, table):
        return self.check_unserved(way, way.sky_table, table)

    def test_each_rain_in_each_place(self):
        told = []
        for way in light_ways():
            for standing, (pair, rains) in few(way.unserved_table.items(), 8):
                for choice, rain in itertools.product(rains, all_rains(way.river, standing[1])):
                    told.append(self.check(way, put(way.unserved_table, standing, (pair, put(rains, choice, rain)))))
        self.assertEqual(set(told), {True, False})

    def test_other_pairs(self):
        told = []
        for way in light_ways():
            for standing, (pair, rains) in few(way.unserved_table.items(), 8):
                for number, town in itertools.product((pair[0] - 1, pair[0], pair[0] + 1, 1, FAR, 0), range(-1, 4)):
                    told.append(self.check(way, put(way.unserved_table, standing, ((number, town), rains))))
            table = {standing: ((5 * pair[0], pair[1]), rains) for standing, (pair, rains) in way.unserved_table.items()}
            self.right(is_unserved_table(way.river, way.stuck, way.sky_table, table))
            table = {standing: ((1, pair[1]), rains) for standing, (pair, rains) in way.unserved_table.items()}
            told.append(self.check(way, table))
        self.assertEqual(set(told), {True, False})

    def test_each_key_left_out(self):
        told = []
        for way in light_ways():
            for standing in way.unserved_table:
                told.append(self.check(way, without(way.unserved_table, standing)))
        self.assertEqual(set(told), {True, False})

    def test_served_standings_can_not_be_added(self):
        for way in light_ways():
            for standing in few(way.serving_table) if way.river.towns else ():
                for rain in all_rains(way.river, standing[1]):
                    rains = {choice: rain for choice in let_choices(way.river, way.stuck)}
                    for pair in (1, 0), (FAR, len(way.river.towns) - 1):
                        self.assertIs(self.check(way, put(way.unserved_table, standing, (pair, rains))), False)

    def test_no_standing_is_a_key_of_both(self):
        found = 0
        for way in light_ways():
            for standing, (number, rains) in few(way.sky_table.items()):
                if way.river.towns:
                    spoiled = put(way.unserved_table, standing, ((FAR, 0), rains))
                    self.wrong(is_unserved_table(way.river, way.stuck, way.sky_table, spoiled))
                    found += 1
            # Lost standings may be told as unserved ones, where the sky's table does not have them.
            table = {standing: ((number, 0), rains) for standing, (number, rains) in way.sky_table.items()}
            self.assertIs(self.check_unserved(way, {}, table), table == {} or way.river.towns != ())
        self.assertGreater(found, 50)

    def test_beside_other_tables_of_the_sky(self):
        told = []
        for way in light_ways():
            told.append(self.check_unserved(way, {}, way.unserved_table))
            for standing in few(way.sky_table):
                told.append(self.check_unserved(way, without(way.sky_table, standing), way.unserved_table))
                spoiled = put(way.sky_table, standing, (0, way.sky_table[standing][1]))
                self.wrong(is_unserved_table(way.river, way.stuck, spoiled, way.unserved_table))
                self.wrong(is_unserved_table(way.river, way.stuck, spoiled, {}))
                least = {standing: row for standing, row in way.sky_table.items() if row[0] == 1}
                told.append(self.check_unserved(way, least, way.unserved_table))
        self.assertEqual(set(told), {True, False})

    def test_wrong_forms(self):
        for way in few(way for way in light_ways() if len(way.unserved_table) > 0):
            for standing, (pair, rains) in few(way.unserved_table.items(), 2):
                number, town = pair
                pairs = [
                    [number, town], (number,), (number, town, town), (number, None), (number, len(way.river.towns)),
                    (number, -1), (number, True), (number, False), (number, str(town)), (True, town), (0, town), (-1, town),
                    (None, town), ((number,), town), number, None, (), (pair,), {number: town}, (number, (town,)),
                ]
                pairs += [(thing, town) for thing in no_numbers()] + [(number, thing) for thing in no_numbers()]
                rows = [(other, rains) for other in pairs] + [
                    [pair, rains], (pair,), (rains,), (pair, rains, rains), (rains, pair), pair, rains, None, (),
                    (pair, list(rains.items())), (pair, None), (pair, {}), (number, town, rains), (number, rains),
                ]
                choice = list(rains)[0]
                rows += [(pair, put(rains, choice, thing)) for thing in no_rains(way.river, standing[1], rains[choice])]
                rows += [(pair, without(rains, choice)), (pair, put(rains, ((9,), None), rains[choice]))]
                for row in rows + any_things():
                    spoiled = put(way.unserved_table, standing, row)
                    self.wrong(is_unserved_table(way.river, way.stuck, way.sky_table, spoiled))

    def test_without_towns_only_the_dict_without_keys_is_right(self):
        river = read_river("cloud 1 1\nbasin a 0 1 0 1 step 0")
        sky_table = Holding(river).sky_table()
        self.right(is_unserved_table(river, None, sky_table, {}))
        for standing, (number, rains) in sky_table.items():
            for town in (None, 0, -1):
                self.wrong(is_unserved_table(river, None, {}, {standing: ((number, town), rains)}))

    def test_every_table_of_a_tiny_river(self):
        river = read_river("cloud 1 0\nbasin a 0 1 0 1 step 0\ntown x a 1\ntown y a 1")
        way = Way(river, None)
        pairs = [(1, 0), (1, 1), (2, 0)]
        right = []
        for picks in itertools.product([None] + pairs, repeat=4):
            for least in (False, True):
                table = {}
                for standing, pair in zip(all_standings(river), picks):
                    rains = all_rains(river, standing[1])
                    rain = rains[0] if least else rains[-1]
                    if pair is not None:
                        table[standing] = (pair, {choice: rain for choice in let_choices(river, None)})
                if self.check(way, table):
                    right.append(set(table))
        self.assertEqual(set().union(*right), set(way.unserved_table))


class Whole(Tables):
    def test_none_is_a_key_of_tables_that_say_otherwise(self):
        for way in ways():
            self.assertEqual(set(way.keeper_table) & set(way.sky_table), set())
            self.assertEqual(set(way.serving_table) & set(way.unserved_table), set())

    def test_tables_of_fewer_settings(self):
        for way in ways():
            # What is held, or served, with stuck gates is so without them; what is lost without them is so with them.
            self.right(is_keeper_table(way.river, None, way.keeper_table))
            self.right(is_serving_table(way.river, {}, way.serving_table))
            let = let_choices(way.river, way.stuck)
            sky_table = Holding(way.river).sky_table()
            fewer = {standing: (number, {choice: rains[choice] for choice in let})
                     for standing, (number, rains) in sky_table.items()}
            self.right(is_sky_table(way.river, way.stuck, fewer))

    def test_of_the_river_in_the_document(self):
        river = mill_river()
        self.right(is_keeper_table(river, None, {((2, 2), 0): ((0, 0), None), ((2, 2), 1): ((0, 0), None)}) is False)
        self.right(is_sky_table(river, {0: 0, 1: 1}, {((4, 3), 2): (1, {
            ((0, 1), None): (1, 0), ((0, 1), 0): (1, 1),
        })}))
        self.wrong(is_sky_table(river, {0: 0}, {((4, 3), 2): (1, {
            ((0, 1), None): (1, 0), ((0, 1), 0): (1, 1),
        })}))
        self.wrong(is_sky_table(river, {0: 0, 1: 1}, {((4, 3), 2): (1, {
            ((0, 1), None): (0, 1), ((0, 1), 0): (1, 1),
        })}))


if __name__ == "__main__":
    unittest.main()
