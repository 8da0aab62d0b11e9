"""Points 3 to 5, 11, 15 and 16: rivers as texts, read and written again, and faulty texts refused."""

import itertools
import unittest

from things import FAR, any_things, mill_river, names, no_texts
from weirwatch.errors import NoText, WeirError
from weirwatch.gates import FlapGate, PartGate, StepGate
from weirwatch.rivers import Basin, River, Town
from weirwatch.rivertext import read_river, show_river

MILL = "cloud 2 1\nbasin upper 0 4 2 1 step 0 2\nbasin lower 1 4 2 1 flap 2 3\ntown mill lower 1"
PONDS = "\n".join([
    "cloud 12 12", "basin town 12 12 12 0 part 1 2 11 12", "basin basin 0 12 5 6 flap 0",
    "town town basin 6", "town basin town 3", "town cloud basin 1",
])
SORT = {"step": StepGate, "flap": FlapGate, "part": PartGate}


def gate_values(gate):
    return (gate.__class__, gate.marks)


def river_values(river):
    basins = [(b.name, b.low, b.high, b.start, b.rain, gate_values(b.gate)) for b in river.basins]
    towns = [(town.name, town.basin, town.want) for town in river.towns]
    return (river.cloud, river.gain, basins, towns)


def long_text(basins, towns):
    lines = ["cloud 3 2"] + [f"basin {name} 0 4 2 1 step 0 2" for name in names(basins)]
    return "\n".join(lines + [f"town {name} aaa 1" for name in names(towns)])


def number_of(word):
    """The number that a word is the plain text of; a ValueError where it is none."""
    if word != str(int(word)):
        raise ValueError(word)
    return int(word)


def basin_of(words):
    gate = SORT[words[6]]([number_of(word) for word in words[7:]])
    return Basin(words[1], *[number_of(word) for word in words[2:6]], gate)


def river_of(lines):
    """The river of these lines, made without the reader; an error where there is none."""
    rows = [line.split(" ") for line in lines]
    basins = [basin_of(words) for words in rows[1:] if words[0] == "basin"]
    towns = [Town(words[1], words[2], number_of(words[3])) for words in rows[1:] if words[0] == "town"]
    cloud, gain = [number_of(word) for word in rows[0][1:]]
    return River(cloud, gain, basins, towns)


def is_text_of_a_river(lines):
    try:
        return show_river(river_of(lines)) == "\n".join(lines)
    except (WeirError, ValueError, LookupError):
        return False


def endings(words, lines):
    """Ways to end a line that begins with these words, where there is any at all."""
    fresh = [name for name in ("qqq", "rrr") if name not in words][:1]
    somewhere = [line.split(" ")[1] for line in lines[1:2]]
    high = words[3:4] or ["12"]
    whole = {
        "cloud": ["cloud", "12", "0"],
        "basin": ["basin"] + fresh + ["0"] + high + high + ["0", "step", "12"],
        "town": ["town"] + fresh + somewhere + ["1"],
    }
    return [[], whole.get(words[0], [])[len(words):]]


def can_go_on(lines, words):
    """Whether some text of a river has these lines, and then one that begins with these words."""
    for ending in endings(words, lines):
        row = " ".join(words + ending)
        if is_text_of_a_river(lines + [row]) or is_text_of_a_river(lines + [row, "basin z 0 0 0 0 step 0"]):
            return True
    return False


def can_stand(lines):
    return is_text_of_a_river(lines) or is_text_of_a_river(lines + ["basin z 0 0 0 0 step 0"])


def first_fault(text):
    """The line and place that the document asks for, found by trying; None where the text is right."""
    lines = text.split("\n")
    for line in range(len(lines)):
        words = lines[line].split(" ")
        for place in range(len(words)):
            if not can_go_on(lines[:line], words[:place + 1]):
                return (line, place)
        if not can_stand(lines[:line + 1]):
            return (line, len(words))
    return None if is_text_of_a_river(lines) else (len(lines), 0)


class Written(unittest.TestCase):
    def test_the_river_in_the_document(self):
        self.assertEqual(show_river(mill_river()), MILL)

    def test_without_towns(self):
        river = River(0, 0, [Basin("a", 0, 12, 10, 6, PartGate([1, 10, 11, 12]))], [])
        self.assertEqual(show_river(river), "cloud 0 0\nbasin a 0 12 10 6 part 1 10 11 12")

    def test_order(self):
        basins = [Basin(name, 0, 1, 0, 0, StepGate([1])) for name in ("b", "a")]
        river = River(12, 10, basins, [Town("z", "a", 6), Town("a", "b", 1), Town("m", "a", 2)])
        self.assertEqual(show_river(river).split("\n"), [
            "cloud 12 10", "basin b 0 1 0 0 step 1", "basin a 0 1 0 0 step 1", "town z a 6", "town a b 1", "town m a 2",
        ])


class Read(unittest.TestCase):
    def check_read(self, text):
        river = read_river(text)
        self.assertIsInstance(river, River)
        self.assertEqual(river_values(river), river_values(river_of(text.split("\n"))))
        self.assertEqual(show_river(river), text)

    def test_the_river_in_the_document(self):
        self.assertEqual(river_values(read_river(MILL)), river_values(mill_river()))
        self.check_read(MILL)

    def test_names_that_are_words_too(self):
        self.check_read(PONDS)

    def test_lengths(self):
        for basins, towns in itertools.product((1, 2, 15, 16), range(4)):
            self.check_read(long_text(basins, towns))

    def test_every_gate(self):
        for sort in SORT:
            for many in range(1, 5):
                for marks in itertools.combinations(range(1 if sort == "part" else 0, 13), many):
                    self.check_read(f"cloud 0 0\nbasin a 0 0 0 0 {sort} " + " ".join(str(mark) for mark in marks))

    def test_every_number_of_a_basin(self):
        for low, start, high in itertools.combinations_with_replacement(range(13), 3):
            self.check_read(f"cloud 0 0\nbasin a {low} {high} {start} {(low + high) % 7} step 0")

    def test_every_cloud_and_want(self):
        for gain, cloud in itertools.combinations_with_replacement(range(13), 2):
            self.check_read(f"cloud {cloud} {gain}\nbasin a 0 0 0 0 step 0\ntown a a {1 + cloud % 6}")

    def test_read_again(self):
        one, other = read_river(MILL), read_river(MILL)
        self.assertEqual(river_values(one), river_values(other))
        self.assertIsNot(one.basins[0], other.basins[0])


class Faults(unittest.TestCase):
    def check_fault(self, text, line, place):
        with self.subTest(text=text), self.assertRaises(NoText) as caught:
            read_river(text)
        self.assertIs(caught.exception.__class__, NoText)
        self.assertEqual((caught.exception.line, caught.exception.place), (line, place))

    def test_what_is_no_text(self):
        for thing in no_texts() + [[MILL], (MILL,), {MILL: MILL}, mill_river(), FAR]:
            self.check_fault(thing, 0, 0)

    def test_any_thing(self):
        for thing in any_things():
            with self.subTest(thing=thing), self.assertRaises(NoText):
                read_river(thing)

    def test_the_line_of_the_cloud(self):
        for line, place in (
            ("", 0), (" ", 0), ("Cloud 2 1", 0), (" cloud 2 1", 0), ("basin a 0 0 0 0 step 0", 0), ("cloud  2 1", 1),
            ("cloud", 1), ("cloud ", 1), ("cloud 13 1", 1), ("cloud -1 1", 1), ("cloud 02 1", 1), ("cloud x x", 1),
            ("cloud 2", 2), ("cloud 2 ", 2), ("cloud 2 3", 2), ("cloud 2 01", 2), ("cloud 2\t1", 1), ("cloud 2 1\r", 2),
            ("cloud 2 1 ", 3), ("cloud 2 1 0", 3), ("cloud 2 1  ", 3),
        ):
            self.check_fault(line, 0, place)
            self.check_fault(line + "\nbasin a 0 0 0 0 step 0", 0, place)

    def test_a_line_that_lacks(self):
        self.check_fault("cloud 2 1", 1, 0)
        self.check_fault("cloud 2 1\n", 1, 0)

    def test_lines_without_signs(self):
        self.check_fault("\n" + MILL, 0, 0)
        self.check_fault(MILL + "\n", 4, 0)
        self.check_fault(MILL + "\n\n", 4, 0)
        self.check_fault(MILL.replace("\nbasin lower", "\n\nbasin lower"), 2, 0)

    def test_the_first_wrong_line_goes(self):
        self.check_fault("cloud 2 1\nbasin a 0 0 0 0 step\ntown a", 1, 7)
        self.check_fault("cloud 2 3\nbasin\ntown", 0, 2)
        self.check_fault(MILL.replace("mill", "MILL") + "\nbasin", 3, 1)

    def test_the_first_word_of_a_line(self):
        cloud, upper, lower, mill = MILL.split("\n")
        self.check_fault("\n".join([cloud, mill]), 1, 0)
        self.check_fault("\n".join([cloud, cloud, upper]), 1, 0)
        self.check_fault("\n".join([cloud, "pond a 0 0 0 0 step 0"]), 1, 0)
        self.check_fault("\n".join([cloud, lower, mill, upper]), 3, 0)
        self.check_fault("\n".join([cloud, lower, mill, cloud]), 3, 0)
        self.check_fault(long_text(17, 0), 17, 0)
        self.check_fault(long_text(17, 3), 17, 0)
        self.check_fault(long_text(1, 4), 5, 0)
        self.check_fault(long_text(16, 4), 20, 0)
        self.check_fault(long_text(16, 3) + "\nbasin zz 0 4 2 1 step 0 2", 20, 0)

    def test_a_line_of_a_basin(self):
        for line, place in (
            ("basin", 1), ("basin a", 2), ("basin a 1", 3), ("basin a 1 4", 4), ("basin a 1 4 2", 5),
            ("basin a 1 4 2 0", 6), ("basin a 1 4 2 0 step", 7), ("basin a 1 4 2 0 step ", 7), ("basin ", 1),
            ("basin A 1 4 2 0 step 1", 1), ("basin abcdefghi 1 4 2 0 step 1", 1), ("basin upper 1 4 2 0 step 1", 1),
            ("basin a 13 4 2 0 step 1", 2), ("basin a x 4 2 0 step 1", 2), ("basin a 01 4 2 0 step 1", 2),
            ("basin a 5 4 5 0 step 1", 3), ("basin a 1 13 2 0 step 1", 3), ("basin a 3 2 9 0 step 1", 3),
            ("basin a 1 4 0 0 step 1", 4), ("basin a 1 4 5 0 step 1", 4), ("basin a 1 4 2 7 step 1", 5),
            ("basin a 1 4 2 -1 step 1", 5), ("basin a 1 4 2 0 stuck 1", 6), ("basin a 1 4 2 0 Step 1", 6),
            ("basin a 1 4 2 0 1 2", 6), ("basin a 1 4 2 0 part 0", 7), ("basin a 1 4 2 0 part 0 1", 7),
            ("basin a 1 4 2 0 flap 13", 7), ("basin a 1 4 2 0 step x", 7), ("basin a 1 4 2 0 step 3 3", 8),
            ("basin a 1 4 2 0 step 3 2", 8), ("basin a 1 4 2 0 step 12 13", 8), ("basin a 1 4 2 0 step 1 2 2", 9),
            ("basin a 1 4 2 0 flap 1 2 3 3", 10), ("basin a 1 4 2 0 flap 1 2 3 4 5", 11),
            ("basin a 1 4 2 0 flap 1 2 3 4 ", 11), ("basin a 1 4 2 0 step 1 ", 8), ("basin a 1 4 2  0 step 1", 5),
        ):
            self.check_fault("cloud 2 1\nbasin upper 0 4 2 1 step 0 2\n" + line, 2, place)
            self.check_fault("cloud 2 1\nbasin upper 0 4 2 1 step 0 2\n" + line + "\ntown", 2, place)

    def test_a_line_of_a_town(self):
        for line, place in (
            ("town", 1), ("town ", 1), ("town a", 2), ("town a lower", 3), ("town a lower ", 3), ("town a lower 1 ", 4),
            ("town a lower 1 1", 4), ("town a lower 0", 3), ("town a lower 7", 3), ("town a lower 01", 3),
            ("town a lower x", 3), ("town a mill 1", 2), ("town a Lower 1", 2), ("town a  1", 2), ("town a 1", 2),
            ("town mill lower 1", 1), ("town Mill lower 1", 1), ("town 1 lower 1", 1), ("town  lower 1", 1),
        ):
            self.check_fault(MILL + "\n" + line, 4, place)

    def test_names_may_be_used_for_things_of_the_other_kind(self):
        self.assertEqual(read_river(MILL + "\ntown lower upper 2").towns[1].name, "lower")


class FaultsFoundByTrying(unittest.TestCase):
    """Texts with one thing changed in them, looked at beside what trying finds."""

    WORDS = ["", "0", "1", "2", "3", "4", "6", "7", "12", "13", "00", "1.", "upper", "mill", "town", "basin", "new",
             "cloud", "step", "part", "Upper"]

    def check(self, text):
        fault = first_fault(text)
        try:
            told = show_river(read_river(text))
        except NoText as refusal:
            told = (refusal.line, refusal.place)
        self.assertEqual(told, text if fault is None else fault, repr(text))

    def changed_lines(self, words):
        """The line with a word put in the place of another, put in between, or left out, or cut short."""
        for place in range(len(words) + 1):
            yield words[:place]
            yield words[:place] + words[place + 1:]
            for word in self.WORDS:
                yield words[:place] + [word] + words[place + 1:]
                yield words[:place] + [word] + words[place:]

    def test_texts_that_are_right(self):
        for text in (MILL, PONDS, long_text(16, 3), long_text(1, 0)):
            self.assertIsNone(first_fault(text))
            self.check(text)

    def test_words_changed(self):
        for text in (MILL, PONDS):
            lines = text.split("\n")
            for line in range(len(lines)):
                for words in self.changed_lines(lines[line].split(" ")):
                    self.check("\n".join(lines[:line] + [" ".join(words)] + lines[line + 1:]))

    def test_lines_changed(self):
        for text in (MILL, PONDS):
            lines = text.split("\n")
            for many in range(len(lines) + 1):
                for some in itertools.permutations(lines, many) if len(lines) < 5 else [lines[:many]]:
                    self.check("\n".join(some))
            for line, other in itertools.product(range(len(lines) + 1), range(len(lines))):
                self.check("\n".join(lines[:line] + [lines[other]] + lines[line:]))
                self.check("\n".join(lines[:line] + [lines[other]] + lines[line + 1:]))

    def test_signs_changed(self):
        for place in range(len(MILL)):
            self.check(MILL[:place])
            self.check(MILL[:place] + MILL[place + 1:])
            for sign in " \n1z":
                self.check(MILL[:place] + sign + MILL[place:])
                self.check(MILL[:place] + sign + MILL[place + 1:])


if __name__ == "__main__":
    unittest.main()
