"""Finding the least sums of a power that make a paper which holds."""

from toll.errors import NoSize
from toll.least import check_unknowns, least
from toll.papers import path_price, size_holds
from toll.paths import paths_of
from toll.sums import choices, gathered, product_at, spreads_of
from toll.tables import check_table
from toll.ways import held_by


def rows_for(program, table, power, kind="price"):
    paths = checked_paths(program, table)
    unknowns = unknowns_of(program, power)
    return (unknowns, rows_of(paths, table, power, kind, unknowns))


def find(program, table, power, size, kind="price"):
    paths = checked_paths(program, table)
    unknowns = unknowns_of(program, power)
    check_unknowns(len(unknowns))
    rows = rows_of(paths, table, power, kind, unknowns)
    found = least([cost_of(powers, size) for name, powers in unknowns], rows)
    if found[0] == "none":
        return found
    return ("bound", sums_of(program, unknowns, found[2]), found[1], found[3])


# A list of tuples (function, path), of programs whose sizes hold.
def checked_paths(program, table):
    check_table(table)
    paths = []
    for function in program:
        for number, path in enumerate(paths_of(program, function[0])):
            if not size_holds(function, path):
                raise NoSize((function[0], number))
            paths.append((function, path))
    return paths


def unknowns_of(program, power):
    unknowns = []
    for name, params, gives, body in program:
        unknowns.extend([(name, powers) for powers in powers_of(params, power)])
    return unknowns


def powers_of(params, power):
    told = [()]
    for name, shape in params:
        longer = []
        for powers in told:
            most = 0 if shape == "num" else power - sum(powers)
            longer.extend([powers + (more,) for more in range(most + 1)])
        told = longer
    return told


# The power of a num is 0, so it counts for nothing here.
def cost_of(powers, size):
    cost = 1
    for power in powers:
        cost *= choices(size, power)
    return (cost, 1)


def sums_of(program, unknowns, shares):
    sums = {}
    for function in program:
        named = [(one[1], share) for one, share in zip(unknowns, shares) if one[0] == function[0]]
        sums[function[0]] = gathered(named)
    return sums


def rows_of(paths, table, power, kind, unknowns):
    rows = Rows(unknowns, power)
    for function, path in paths:
        if kind == "price":
            rows.cover(function[0], path, path[3], path_price(path, table))
            continue
        held = held_by(len(function[1]), table)
        rows.cover(function[0], path, [], held)
        for call in path[3]:
            rows.cover(function[0], path, [call], held)
    return rows.told()


class Rows:
    def __init__(self, unknowns, power):
        self.many = len(unknowns)
        self.power = power
        # For each name its unknowns, as tuples (number, powers).
        self.named = {}
        for number, unknown in enumerate(unknowns):
            self.named.setdefault(unknown[0], []).append((number, unknown[1]))
        # From what stands in a row, as a tuple of tuples (number of the unknown, whole number), to its bound.
        self.bounds = {}

    # The rows by which a function's sum, on this path, covers a number and the sums of some calls.
    def cover(self, name, path, calls, number):
        nowhere = (0,) * path[1]
        table = {nowhere: {}}
        self.lay(table, name, path[0], path[1], 1)
        for called, lines in calls:
            self.lay(table, called, lines, path[1], -1)
        for powers, row in table.items():
            self.keep(row, number if powers == nowhere else 0)

    # To the table, from powers to rows, come the function's sum with the lines laid in, so many times.
    def lay(self, table, name, lines, many, by):
        spreads = spreads_of(lines, many, self.power)
        for number, powers in self.named[name]:
            for met, ways in product_at(powers, spreads, many).items():
                row = table.setdefault(met, {})
                row[number] = row.get(number, 0) + by * ways

    # Of rows that are alike but for their bounds the greatest bound is enough, and what is always met is left out.
    def keep(self, row, bound):
        parts = tuple([(number, row[number]) for number in sorted(row) if row[number] != 0])
        if bound > 0 or any([part[1] < 0 for part in parts]):
            self.bounds[parts] = max(bound, self.bounds.get(parts, 0))

    def told(self):
        return [(self.whole_row(parts), (bound, 1)) for parts, bound in self.bounds.items()]

    def whole_row(self, parts):
        numbers = dict(parts)
        return [(numbers.get(place, 0), 1) for place in range(self.many)]
