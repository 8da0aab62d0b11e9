"""Points 3, 4 and 12: gates, what they let through, and what they refuse."""

import itertools
import unittest

from things import FAR, Refusing, no_numbers, package_objects
from weirwatch.errors import NoGate, NoNumber
from weirwatch.gates import FlapGate, Gate, PartGate, StepGate, StuckGate

LOWEST = {StepGate: 0, FlapGate: 0, PartGate: 1}
WORD = {StepGate: "step", FlapGate: "flap", PartGate: "part"}


def let_by(sort, mark, level):
    """What the document says of the sort, counted cube by cube."""
    cubes = range(1, level + 1)
    if sort == StepGate:
        return len([cube for cube in cubes if cube <= mark])
    if sort == FlapGate:
        return len([cube for cube in cubes if cube > mark])
    return len([cube for cube in cubes if cube % mark == 0])


def edge_levels(marks):
    levels = {0, 1, 13, 25, 999, 1000}
    for mark in marks:
        levels.update((max(mark - 1, 0), mark, mark + 1, 2 * mark, 2 * mark + 1))
    return sorted(levels)


def all_marks(sort):
    bounds = range(LOWEST[sort], 13)
    return [marks for many in range(1, 5) for marks in itertools.combinations(bounds, many)]


def some_gates():
    return [StepGate([0, 2, 4]), FlapGate((1, 5)), PartGate([1, 2, 3, 12]), StepGate((7,))]


class Sorts(unittest.TestCase):
    def test_places(self):
        for sort in (StepGate, FlapGate, PartGate, StuckGate):
            self.assertEqual(sort.__bases__, (Gate,))

    def test_each_is_a_gate(self):
        for gate in some_gates() + [StuckGate(StepGate([1]), 0)]:
            self.assertIsInstance(gate, Gate)


class Lets(unittest.TestCase):
    def test_told_by_hand(self):
        rows = (
            (StepGate, 2, {0: 0, 1: 1, 2: 2, 3: 2, 1000: 2}),
            (StepGate, 0, {0: 0, 1: 0, 1000: 0}),
            (FlapGate, 2, {0: 0, 1: 0, 2: 0, 3: 1, 5: 3, 1000: 998}),
            (FlapGate, 0, {0: 0, 1: 1, 1000: 1000}),
            (PartGate, 1, {0: 0, 1: 1, 1000: 1000}),
            (PartGate, 3, {0: 0, 2: 0, 3: 1, 5: 1, 6: 2, 1000: 333}),
            (PartGate, 12, {11: 0, 12: 1, 23: 1, 24: 2, 1000: 83}),
        )
        for sort, mark, told in rows:
            for level, cubes in told.items():
                with self.subTest(sort=sort, mark=mark, level=level):
                    self.assertEqual(sort([mark]).lets(0, level), cubes)

    def test_each_mark_at_each_level(self):
        for sort in LOWEST:
            for mark in range(LOWEST[sort], 13):
                gate = sort([mark])
                for level in list(range(60)) + [997, 998, 999, 1000]:
                    self.assertEqual(gate.lets(0, level), let_by(sort, mark, level))

    def test_each_setting_goes_by_its_own_mark(self):
        for sort in LOWEST:
            for marks in [(12,), (1, 2), (3, 4, 9), (1, 5, 6, 12), (9, 10, 11, 12)]:
                for kind in (list, tuple):
                    gate = sort(kind(marks))
                    for setting, mark in enumerate(marks):
                        for level in edge_levels(marks):
                            told = gate.lets(setting, level)
                            self.assertEqual(told, let_by(sort, mark, level))
                            self.assertIs(type(told), int)

    def test_marks_from_the_lowest_on(self):
        self.assertEqual(StepGate([0, 12]).lets(1, 12), 12)
        self.assertEqual(FlapGate([0, 12]).lets(0, 12), 12)
        self.assertEqual(PartGate([1, 12]).lets(0, 12), 12)

    def test_asked_again(self):
        for gate in some_gates():
            first = [gate.lets(0, level) for level in range(30)]
            self.assertEqual([gate.lets(0, level) for level in range(30)], first)


class Marks(Refusing):
    def test_all_that_there_can_be(self):
        for sort in LOWEST:
            for marks in all_marks(sort):
                for kind in (list, tuple):
                    gate = sort(kind(marks))
                    self.assertEqual(gate.marks, marks)
                    self.assertIs(type(gate.marks), tuple)
                    self.assertEqual(gate.settings(), len(marks))

    def test_what_is_done_to_the_list_later(self):
        for sort in LOWEST:
            marks = [1, 2, 4]
            gate = sort(marks)
            self.assertEqual(marks, [1, 2, 4])
            before = [gate.lets(2, level) for level in range(20)]
            marks.clear()
            self.assertEqual(gate.marks, (1, 2, 4))
            self.assertEqual(gate.settings(), 3)
            self.assertEqual([gate.lets(2, level) for level in range(20)], before)
            self.assertEqual(gate.words(), WORD[sort] + " 1 2 4")

    def test_two_gates_of_one_list(self):
        marks = [1, 2]
        one = StepGate(marks)
        marks.append(3)
        other = FlapGate(marks)
        self.assertEqual((one.marks, other.marks), ((1, 2), (1, 2, 3)))

    def test_wrong_rows(self):
        rows = [
            (), (1, 2, 3, 4, 5), (0, 1, 2, 3, 4), tuple(range(1, 13)),
            (2, 1), (1, 3, 2), (1, 2, 4, 3), (4, 3, 2, 1),
            (1, 1), (12, 12), (1, 2, 2), (1, 2, 3, 3), (1, 1, 2),
            (-1,), (-1, 2), (13,), (1, 13), (1, 2, 3, 13), (12, 13), (FAR,), (-FAR,), (1, FAR),
        ]
        for sort in LOWEST:
            for row in rows:
                for kind in (list, tuple):
                    marks = kind(row)
                    self.refused(NoGate, marks, lambda: sort(marks))
                    self.assertEqual(marks, kind(row))

    def test_nought_is_no_mark_of_a_part(self):
        for row in ((0,), (0, 1), (0, 3, 6, 12)):
            for kind in (list, tuple):
                marks = kind(row)
                self.refused(NoGate, marks, lambda: PartGate(marks))
                self.assertEqual(StepGate(marks).marks, row)
                self.assertEqual(FlapGate(marks).marks, row)

    def test_wrong_things_among_them(self):
        for sort in LOWEST:
            for thing in no_numbers():
                for marks in ([thing], (thing,), [thing, 12], [1, thing], (1, thing, 12), [1, 2, 3, thing]):
                    self.refused(NoGate, marks, lambda: sort(marks))

    def test_no_list_and_no_tuple(self):
        things = ["", "1", "12", "step 1", 0, 1, 12, FAR, True, False, None, {}, {1: 2}, {0: 1, 1: 2}]
        for sort in LOWEST:
            for thing in things + package_objects():
                self.refused(NoGate, thing, lambda: sort(thing))


class Words(unittest.TestCase):
    def test_as_in_the_document(self):
        self.assertEqual(StepGate([0, 2, 4]).words(), "step 0 2 4")

    def test_each_sort(self):
        self.assertEqual(StepGate((0,)).words(), "step 0")
        self.assertEqual(FlapGate([2, 3]).words(), "flap 2 3")
        self.assertEqual(PartGate([1, 10, 11, 12]).words(), "part 1 10 11 12")

    def test_all_marks(self):
        for sort in LOWEST:
            for marks in all_marks(sort):
                self.assertEqual(sort(marks).words().split(" "), [WORD[sort]] + [str(mark) for mark in marks])


class Stuck(Refusing):
    def test_of_each_sort(self):
        for gate in some_gates():
            for setting in range(gate.settings()):
                stuck = StuckGate(gate, setting)
                self.assertIs(stuck.gate, gate)
                self.assertEqual(stuck.setting, setting)
                self.assertEqual(stuck.settings(), 1)
                for level in list(range(40)) + [999, 1000]:
                    self.assertEqual(stuck.lets(0, level), gate.lets(setting, level))

    def test_of_stuck_ones(self):
        for gate in some_gates():
            for setting in range(gate.settings()):
                stuck = StuckGate(gate, setting)
                for depth in range(5):
                    outer = StuckGate(stuck, 0)
                    self.assertIs(outer.gate, stuck)
                    self.assertEqual((outer.setting, outer.settings()), (0, 1))
                    for level in (0, 1, 2, 3, 12, 13, 1000):
                        self.assertEqual(outer.lets(0, level), gate.lets(setting, level))
                    stuck = outer

    def test_stuck_many_times_over(self):
        stuck = StuckGate(FlapGate([1, 3]), 1)
        for depth in range(3000):
            stuck = StuckGate(stuck, 0)
        self.assertEqual(stuck.lets(0, 10), 7)

    def test_words_are_a_text(self):
        self.assertIsInstance(StuckGate(StepGate([1]), 0).words(), str)

    def test_of_what_is_no_gate(self):
        things = [thing for thing in no_numbers() if not isinstance(thing, Gate)]
        for thing in things + [0, 1, -1, FAR, "step 0 2"]:
            for setting in (0, 1, -1, True, None, "0", []):
                self.refused(NoGate, thing, lambda: StuckGate(thing, setting))

    def test_at_what_is_no_setting(self):
        for gate in some_gates() + [StuckGate(StepGate([0, 2]), 1)]:
            for setting in no_numbers() + [-1, gate.settings(), gate.settings() + 1, FAR, -FAR]:
                self.refused(NoGate, setting, lambda: StuckGate(gate, setting))


class Asked(Refusing):
    def gates(self):
        return some_gates() + [StuckGate(gate, gate.settings() - 1) for gate in some_gates()]

    def test_no_setting_ahead_of_no_level(self):
        for gate in self.gates():
            for setting in no_numbers() + [-1, gate.settings(), 4, FAR, -FAR]:
                for level in (0, 5, 1000, -1, 1001, True, "5", None, [5]):
                    self.refused(NoGate, setting, lambda: gate.lets(setting, level))

    def test_no_level(self):
        for gate in self.gates():
            for setting in range(gate.settings()):
                for level in no_numbers() + [-1, 1001, FAR, -FAR]:
                    self.refused(NoNumber, level, lambda: gate.lets(setting, level))

    def test_a_refusal_changes_nothing(self):
        gate = StepGate([0, 2, 4])
        before = (gate.marks, gate.settings(), gate.words(), [gate.lets(2, level) for level in range(9)])
        for setting, level in ((3, 0), (0, -1), ([], {})):
            with self.assertRaises((NoGate, NoNumber)):
                gate.lets(setting, level)
        after = (gate.marks, gate.settings(), gate.words(), [gate.lets(2, level) for level in range(9)])
        self.assertEqual(before, after)


if __name__ == "__main__":
    unittest.main()
