"""Seas: regions through which a ship sails, and how each light looks from them."""

from falseglim.errors import BadLine, BadRegion, BadSector, BadWays, NoLight, Unknown
from falseglim.forms import is_from, is_tuple
from falseglim.signs import is_glass, is_name
from falseglim.wordlines import check_lines, read_words, words_of
from falseglim.worlds import read_begins, some_states

MOST_REGIONS = 6
MOST_LIGHTS = 3


def different_names(regions):
    """The tuple of 1 to 6 different names that a thing is."""
    if not is_tuple(regions) or not 1 <= len(regions) <= MOST_REGIONS:
        raise BadRegion(-1)
    for number, region in enumerate(regions):
        if not is_name(region) or region in regions[:number]:
            raise BadRegion(number)
    return tuple(regions)


def ways_of_regions(ways, many):
    """The regions to which each of so many regions leads, as tuples."""
    if not is_tuple(ways) or len(ways) != many:
        raise BadWays(-1)
    kept = []
    for number, thing in enumerate(ways):
        numbers = some_states(thing, many)
        if numbers is None:
            raise BadWays(number)
        kept.append(numbers)
    return tuple(kept)


def are_glasses(thing):
    """Whether a thing is a tuple of 1 to 3 glasses."""
    return is_tuple(thing) and 1 <= len(thing) <= MOST_LIGHTS and all([is_glass(glass) for glass in thing])


def glasses_of_regions(sectors, many):
    """The glasses of so many regions, as tuples; all regions have as many as the first one."""
    if not is_tuple(sectors) or len(sectors) != many:
        raise BadSector(-1)
    for number, thing in enumerate(sectors):
        if not are_glasses(thing) or len(thing) != len(sectors[0]):
            raise BadSector(number)
    return tuple([tuple(glasses) for glasses in sectors])


class Sea:
    """Regions, the ways between them, the beginnings, and the sectors: for each region a glass for each light."""

    def __init__(self, regions, ways, begins, sectors):
        self.regions = different_names(regions)
        many = len(self.regions)
        self.ways = ways_of_regions(ways, many)
        self.begins = read_begins(begins, many)
        self.sectors = glasses_of_regions(sectors, many)

    def __contains__(self, region):
        return is_name(region) and region in self.regions

    def __len__(self):
        return len(self.regions)

    def __iter__(self):
        return iter(self.regions)

    def __getitem__(self, at):
        region, light = at
        if not is_name(region) or region not in self.regions:
            raise Unknown(region)
        glasses = self.sectors[self.regions.index(region)]
        if not is_from(light, 0, len(glasses) - 1):
            raise NoLight(light)
        return glasses[light]

    def __eq__(self, other):
        return (isinstance(other, Sea) and self.regions == other.regions and self.ways == other.ways
                and self.begins == other.begins and self.sectors == other.sectors)


def write_sea(sea):
    """The lines of a sea."""
    lines = [" ".join(["region", region] + list(glasses)) for region, glasses in zip(sea.regions, sea.sectors)]
    for region, numbers in zip(sea.regions, sea.ways):
        lines.append(" ".join(["way", region] + [sea.regions[number] for number in numbers]))
    lines.append(" ".join(["begin"] + [sea.regions[number] for number in sea.begins]))
    return tuple(lines)


def words_behind(lines, line, first):
    """The words of the line with a number, of which the first one must be this one."""
    words = words_of(lines, line)
    if words[0] != first:
        raise BadLine(line, 0)
    return words


def read_regions(lines):
    """The regions that lines tell, at least one, and their sectors."""
    regions, sectors = [], []
    words = words_behind(lines, 0, "region")
    while words[0] == "region":
        region, *glasses = read_words(words, len(regions), ("name",), "glass")
        regions.append(region)
        sectors.append(tuple(glasses))
        words = words_of(lines, len(regions))
    return regions, sectors


def read_sea(lines):
    """The sea that lines tell."""
    check_lines(lines)
    regions, sectors = read_regions(lines)
    numbers = {}
    for number, region in enumerate(regions):
        numbers.setdefault(region, number)
    ways = []
    for number, region in enumerate(regions):
        line = len(regions) + number
        words = words_behind(lines, line, "way")
        ways.append(tuple(read_words(words, line, ({region: number},), numbers)[1:]))
    line = 2 * len(regions)
    begins = read_words(words_behind(lines, line, "begin"), line, (), numbers)
    if len(lines) > line + 1:
        raise BadLine(line + 1, 0)
    return Sea(tuple(regions), tuple(ways), tuple(begins), tuple(sectors))
