"""Papers: for each function a price sum and a room sum, when they hold, and what they tell ahead."""

from toll.errors import NoPaper
from toll.paths import paths_of
from toll.programs import function_of
from toll.ratios import under
from toll.sums import added, covers, gathered, laid, line_laid, value_at
from toll.tables import KINDS, check_table
from toll.values import size_of
from toll.ways import held_by


def fault_of(program, table, paper):
    check_table(table)
    check_paper(program, paper)
    for function in program:
        for number, path in enumerate(paths_of(program, function[0])):
            kind = path_fault(function, path, table, paper)
            if kind is not None:
                return (kind, function[0], number)
    return None


def check_paper(program, paper):
    if sorted(paper) != sorted([function[0] for function in program]):
        raise NoPaper("a paper has the names of all functions, and no others")
    for function in program:
        shapes = [shape for param, shape in function[1]]
        if not all([sum_fits(one, shapes) for one in paper[function[0]]]):
            raise NoPaper("a sum of a paper is not one over the sizes of its function's params, with no ratio below 0")


def sum_fits(one, shapes):
    return all([powers_fit(powers, shapes) and not under(share, (0, 1)) for powers, share in one])


def powers_fit(powers, shapes):
    if len(powers) != len(shapes):
        return False
    return all([power == 0 for power, shape in zip(powers, shapes) if shape == "num"])


def path_fault(function, path, table, paper):
    if not size_holds(function, path):
        return "size"
    if not price_holds(function, path, table, paper):
        return "price"
    if not room_holds(function, path, table, paper):
        return "room"
    return None


def size_holds(function, path):
    told = line_laid(function[2][1], path[0], path[1])
    return all([number >= needed for number, needed in zip(told, path[4])])


def price_holds(function, path, table, paper):
    needed = steady(path_price(path, table), path[1])
    for name, lines in path[3]:
        needed = added(needed, laid(paper[name][0], lines, path[1]))
    return covers(laid(paper[function[0]][0], path[0], path[1]), needed)


def room_holds(function, path, table, paper):
    held = steady(held_by(len(function[1]), table), path[1])
    room = laid(paper[function[0]][1], path[0], path[1])
    needs = [added(held, laid(paper[name][1], lines, path[1])) for name, lines in path[3]]
    return all([covers(room, needed) for needed in [held] + needs])


# The sum over many sizes that has one value everywhere.
def steady(number, many):
    return gathered([((0,) * many, (number, 1))])


def path_price(path, table):
    return sum([path[2][kind] * table[kind] for kind in KINDS])


def bound_of(program, paper, name, args):
    params = function_of(program, name)[1]
    sizes = [size_of(param[1], arg) for param, arg in zip(params, args)]
    return tuple([value_at(one, sizes) for one in paper[name]])
