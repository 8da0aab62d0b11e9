"""Rivers written as texts, and read from them."""

from weirwatch.errors import NoText
from weirwatch.gates import HIGHEST_MARK, MOST_SETTINGS, FlapGate, PartGate, StepGate
from weirwatch.rivers import HIGHEST, MOST_BASINS, MOST_CLOUD, MOST_RAIN, MOST_TOWNS, MOST_WANT, Basin, River, Town
from weirwatch.words import is_name, number_in

SORTS = ("step", "flap", "part")


def line_of(parts):
    return " ".join([str(part) for part in parts])


def basin_line(basin):
    return line_of(["basin", basin.name, basin.low, basin.high, basin.start, basin.rain, basin.gate.words()])


def town_line(town):
    return line_of(["town", town.name, town.basin, town.want])


def show_river(river):
    """The text of a river none of whose gates is a stuck one."""
    lines = [line_of(["cloud", river.cloud, river.gain])]
    lines.extend([basin_line(basin) for basin in river.basins])
    lines.extend([town_line(town) for town in river.towns])
    return "\n".join(lines)


class LineReader:
    """Takes the words of one line in turn, and refuses the first that lacks or can't stand."""

    def __init__(self, line, row):
        self.line = line
        self.place = 0
        # Only by blanks, so that two of them have a word without signs between.
        self.parts = row.split(" ")

    def at_end(self):
        return self.place == len(self.parts)

    def take(self, can_stand):
        if self.at_end() or not can_stand(self.parts[self.place]):
            raise NoText(self.line, self.place)
        self.place += 1
        return self.parts[self.place - 1]

    def take_of(self, allowed):
        return self.take(lambda part: part in allowed)

    def take_new_name(self, names):
        return self.take(lambda part: is_name(part) and part not in names)

    def take_number(self, low, high):
        return int(self.take(lambda part: number_in(part, low, high) is not None))

    def take_end(self):
        if not self.at_end():
            raise NoText(self.line, self.place)


def read_marks(reader, lowest):
    marks = [reader.take_number(lowest, HIGHEST_MARK)]
    while len(marks) < MOST_SETTINGS and not reader.at_end():
        marks.append(reader.take_number(marks[-1] + 1, HIGHEST_MARK))
    return marks


def read_gate(reader):
    sort = reader.take_of(SORTS)
    if sort == "step":
        return StepGate(read_marks(reader, 0))
    if sort == "flap":
        return FlapGate(read_marks(reader, 0))
    return PartGate(read_marks(reader, 1))


def names_of(things):
    return [thing.name for thing in things]


def read_basin(reader, basins):
    name = reader.take_new_name(names_of(basins))
    low = reader.take_number(0, HIGHEST)
    high = reader.take_number(low, HIGHEST)
    start = reader.take_number(low, high)
    rain = reader.take_number(0, MOST_RAIN)
    return Basin(name, low, high, start, rain, read_gate(reader))


def read_town(reader, basins, towns):
    name = reader.take_new_name(names_of(towns))
    basin = reader.take_of(names_of(basins))
    return Town(name, basin, reader.take_number(1, MOST_WANT))


def first_words(basins, towns):
    """What can stand first in a line behind these basins and towns."""
    firsts = []
    if len(basins) < MOST_BASINS and len(towns) == 0:
        firsts.append("basin")
    if len(basins) > 0 and len(towns) < MOST_TOWNS:
        firsts.append("town")
    return firsts


def read_thing(reader, basins, towns):
    """Puts the basin or the town of the line behind those of the lines ahead."""
    if reader.take_of(first_words(basins, towns)) == "basin":
        basins.append(read_basin(reader, basins))
    else:
        towns.append(read_town(reader, basins, towns))
    reader.take_end()


def read_cloud(reader):
    reader.take_of(["cloud"])
    cloud = reader.take_number(0, MOST_CLOUD)
    gain = reader.take_number(0, cloud)
    reader.take_end()
    return (cloud, gain)


def read_river(text):
    """The river that is written so, refused with the line and place of the first fault."""
    if not isinstance(text, str):
        raise NoText(0, 0)
    rows = text.split("\n")
    cloud = read_cloud(LineReader(0, rows[0]))
    basins = []
    towns = []
    for line in range(1, len(rows)):
        read_thing(LineReader(line, rows[line]), basins, towns)
    if len(basins) == 0:
        raise NoText(len(rows), 0)
    return River(cloud[0], cloud[1], basins, towns)
