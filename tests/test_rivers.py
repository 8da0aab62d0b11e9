"""Points 2 to 5, 13 and 14: basins, towns and rivers, and what is refused of them."""

import itertools
import unittest

from things import FAR, Refusing, any_things, mill_river, names, no_numbers, no_texts, some_rivers
from weirwatch.errors import NoBasin, NoCloud, NoGate, NoName, NoRiver, NoTown
from weirwatch.gates import FlapGate, Gate, PartGate, StepGate, StuckGate
from weirwatch.rivers import Basin, River, Town

GATE = StepGate([0, 2])
NO_NAMES = ["", "A", "Mill", "a b", " a", "a ", "a\n", "mill2", "a-b", "abcdefghi", "x" * 100] + no_texts()


def basin_called(name):
    return Basin(name, 0, 4, 2, 1, GATE)


def basins_called(some):
    return [basin_called(name) for name in some]


def no_gates():
    return [thing for thing in any_things() if not isinstance(thing, Gate)] + ["step 0 2", [0, 2]]


class Basins(Refusing):
    def check_values(self, basin, values):
        told = (basin.name, basin.low, basin.high, basin.start, basin.rain, basin.gate)
        self.assertEqual(told, values)

    def test_every_row_of_numbers(self):
        for low, high, start in itertools.product(range(-1, 14), repeat=3):
            if 0 <= low <= start <= high <= 12:
                self.check_values(Basin("a", low, high, start, 3, GATE), ("a", low, high, start, 3, GATE))
                continue
            wrong = low if not 0 <= low <= 12 else high if not low <= high <= 12 else start
            with self.assertRaises(NoBasin) as caught:
                Basin("a", low, high, start, 3, GATE)
            self.assertEqual(caught.exception.thing, wrong)

    def test_rain(self):
        for rain in range(7):
            self.check_values(Basin("a", 1, 5, 2, rain, GATE), ("a", 1, 5, 2, rain, GATE))
        for rain in [-1, 7, 12, FAR, -FAR] + no_numbers():
            self.refused(NoBasin, rain, lambda: Basin("a", 1, 5, 2, rain, GATE))

    def test_names(self):
        for name in ("a", "z", "upper", "abcdefgh", "basin", "cloud"):
            self.assertEqual(basin_called(name).name, name)
        for name in NO_NAMES:
            self.refused(NoName, name, lambda: basin_called(name))

    def test_what_is_no_number(self):
        for thing in no_numbers() + [FAR, -FAR]:
            self.refused(NoBasin, thing, lambda: Basin("a", thing, 12, 6, 1, GATE))
            self.refused(NoBasin, thing, lambda: Basin("a", 0, thing, 6, 1, GATE))
            self.refused(NoBasin, thing, lambda: Basin("a", 0, 12, thing, 1, GATE))

    def test_every_sort_of_gate(self):
        for gate in (GATE, FlapGate([3]), PartGate([1, 2, 3, 4]), StuckGate(GATE, 1), StuckGate(StuckGate(GATE, 0), 0)):
            self.assertIs(Basin("a", 0, 4, 2, 1, gate).gate, gate)

    def test_what_is_no_gate(self):
        for thing in no_gates():
            self.refused(NoGate, thing, lambda: Basin("a", 0, 4, 2, 1, thing))

    def test_the_first_that_is_due(self):
        wrong = [["name"], ["low"], ["high"], ["start"], ["rain"], ["gate"]]
        right = ["a", 0, 4, 2, 1, GATE]
        errors = [NoName, NoBasin, NoBasin, NoBasin, NoBasin, NoGate]
        for place in range(6):
            values = right[:place] + wrong[place:]
            self.refused(errors[place], wrong[place], lambda: Basin(*values))


class Towns(Refusing):
    def test_wants(self):
        for want in range(1, 7):
            town = Town("mill", "lower", want)
            self.assertEqual((town.name, town.basin, town.want), ("mill", "lower", want))
        for want in [0, -1, 7, 12, FAR, -FAR] + no_numbers():
            self.refused(NoTown, want, lambda: Town("mill", "lower", want))

    def test_names(self):
        self.assertEqual(Town("a", "a", 1).basin, "a")
        for name in NO_NAMES:
            self.refused(NoName, name, lambda: Town(name, "lower", 1))
            self.refused(NoName, name, lambda: Town("mill", name, 1))
            self.refused(NoName, name, lambda: Town(name, "LOWER", 0))
            self.refused(NoName, name, lambda: Town("mill", name, 0))


class Clouds(Refusing):
    def test_every_cloud_and_gain(self):
        for cloud, gain in itertools.product(range(-1, 15), repeat=2):
            if 0 <= gain <= cloud <= 12:
                river = River(cloud, gain, basins_called("a"), [])
                self.assertEqual((river.cloud, river.gain), (cloud, gain))
                continue
            with self.assertRaises(NoCloud) as caught:
                River(cloud, gain, basins_called("a"), [])
            self.assertEqual(caught.exception.thing, gain if 0 <= cloud <= 12 else cloud)

    def test_what_is_no_number(self):
        for thing in no_numbers() + [FAR, -FAR]:
            self.refused(NoCloud, thing, lambda: River(thing, 0, basins_called("a"), []))
            self.refused(NoCloud, thing, lambda: River(12, thing, basins_called("a"), []))

    def test_the_first_that_is_due(self):
        wrong = [["cloud"], ["gain"], ["basins"], ["towns"]]
        right = [2, 1, basins_called("a"), []]
        for place, error in enumerate((NoCloud, NoCloud, NoRiver, NoRiver)):
            self.refused(error, wrong[place], lambda: River(*(right[:place] + wrong[place:])))


class RiversOfBasins(Refusing):
    def refused_basins(self, basins, towns=()):
        self.refused(NoRiver, basins, lambda: River(2, 1, basins, towns))

    def test_one_to_sixteen(self):
        for many in range(1, 17):
            for kind in (list, tuple):
                basins = kind(basins_called(names(many)))
                river = River(2, 1, basins, [])
                self.assertIs(type(river.basins), tuple)
                self.assertEqual(river.basins, tuple(basins))
                self.assertEqual(river.towns, ())

    def test_none_and_too_many(self):
        for many in (0, 17, 18, 27):
            self.refused_basins(basins_called(names(many)))
            self.refused_basins(tuple(basins_called(names(many))))

    def test_names_that_are_like(self):
        for some in (["a", "a"], ["a", "b", "a"], ["a", "b", "c", "c"], names(15) + ["aaa"]):
            self.refused_basins(basins_called(some))
        one = basin_called("a")
        self.refused_basins([one, one])

    def test_other_things(self):
        for thing in any_things():
            self.refused_basins(thing)
            if not isinstance(thing, Basin):
                self.refused_basins([thing])
                self.refused_basins((basin_called("a"), thing))
        self.refused_basins(basin_called("a"))
        self.refused_basins({"a": basin_called("a")})
        self.refused_basins({basin_called("a"): 1})
        self.refused_basins([basins_called("ab")])
        self.refused_basins([basin_called("a"), Town("b", "a", 1)])

    def test_wrong_towns_are_told_behind_wrong_basins(self):
        self.refused_basins([], towns=None)
        self.refused_basins(basins_called("aa"), towns=[Town("x", "b", 1)])


class RiversOfTowns(Refusing):
    def refused_towns(self, towns):
        self.refused(NoRiver, towns, lambda: River(2, 1, basins_called("ab"), towns))

    def test_none_to_three(self):
        towns = [Town("a", "b", 1), Town("mill", "b", 6), Town("b", "a", 2)]
        for many in range(4):
            for kind in (list, tuple):
                river = River(2, 1, basins_called("ab"), kind(towns[:many]))
                self.assertIs(type(river.towns), tuple)
                self.assertEqual(river.towns, tuple(towns[:many]))

    def test_too_many(self):
        for many in (4, 5):
            self.refused_towns([Town(name, "a", 1) for name in names(many)])
            self.refused_towns(tuple(Town(name, "a", 1) for name in names(many)))

    def test_names_that_are_like(self):
        for some in ("xx", "xyx", "xyy"):
            self.refused_towns([Town(name, basin, 1) for name, basin in zip(some, "aba")])

    def test_basins_that_are_not_there(self):
        self.refused_towns([Town("x", "c", 1)])
        self.refused_towns([Town("x", "x", 1)])
        self.refused_towns([Town("x", "a", 1), Town("y", "b", 1), Town("z", "aa", 1)])

    def test_other_things(self):
        for thing in any_things():
            if thing not in ([], ()):
                self.refused_towns(thing)
            self.refused_towns([thing])
            self.refused_towns((Town("x", "a", 1), thing))
        self.refused_towns(Town("x", "a", 1))
        self.refused_towns({})
        self.refused_towns({Town("x", "a", 1): 1})
        self.refused_towns([basin_called("a")])


class Kept(unittest.TestCase):
    def test_what_is_done_to_the_lists_later(self):
        basins, towns = basins_called("ab"), [Town("x", "a", 1)]
        river = River(2, 1, basins, towns)
        told = (tuple(basins), tuple(towns))
        self.assertEqual((len(basins), len(towns)), (2, 1))
        basins.reverse()
        basins.append(basin_called("c"))
        towns.clear()
        self.assertEqual((river.basins, river.towns), told)
        self.assertEqual((river.place_of("a"), river.place_of("c")), (0, None))
        self.assertEqual(river.beginning(), ((2, 2), 2))

    def test_basins_and_towns_are_the_very_ones(self):
        basin, town = basin_called("a"), Town("a", "a", 1)
        river = River(2, 1, [basin], [town])
        self.assertIs(river.basins[0], basin)
        self.assertIs(river.towns[0], town)

    def test_a_refusal_changes_nothing(self):
        basins, towns = basins_called("ab"), [Town("x", "c", 1)]
        with self.assertRaises(NoRiver):
            River(2, 1, basins, towns)
        self.assertEqual([basin.name for basin in basins], ["a", "b"])
        self.assertEqual([(town.name, town.basin, town.want) for town in towns], [("x", "c", 1)])


class Places(unittest.TestCase):
    def test_of_each_basin(self):
        for many in (1, 2, 16):
            river = River(2, 1, basins_called(names(many)), [])
            for place, name in enumerate(names(many)):
                self.assertEqual(river.place_of(name), place)
                self.assertIs(type(river.place_of(name)), int)

    def test_of_names_that_no_basin_has(self):
        river = mill_river()
        for name in ("mill", "uppe", "upperr", "Upper", " upper", "lower ", ""):
            self.assertIsNone(river.place_of(name))

    def test_of_any_thing(self):
        river = mill_river()
        for thing in any_things() + [["upper"], ("lower",), {"upper": 0}, river.basins[0]]:
            self.assertEqual(river.place_of(thing), 0 if thing == "upper" else None)


class Beginnings(unittest.TestCase):
    def test_of_the_river_in_the_document(self):
        self.assertEqual(mill_river().beginning(), ((2, 2), 2))

    def test_starts_and_a_full_cloud(self):
        basins = [Basin(name, 0, 12, start, 1, GATE) for name, start in zip("abcd", (0, 12, 7, 3))]
        self.assertEqual(River(5, 0, basins, []).beginning(), ((0, 12, 7, 3), 5))
        self.assertEqual(River(0, 0, basins[1:2], []).beginning(), ((12,), 0))

    def test_kinds(self):
        for river in some_rivers():
            told = river.beginning()
            self.assertIs(type(told), tuple)
            self.assertIs(type(told[0]), tuple)
            self.assertEqual(told, river.beginning())


if __name__ == "__main__":
    unittest.main()
