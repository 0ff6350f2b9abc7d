"""The dearest inputs of told sizes, and how near a paper comes to them."""

from toll.errors import TooMany
from toll.programs import function_of
from toll.ratios import minus
from toll.runs import trace
from toll.sums import value_at
from toll.tables import check_table, price_of

MOST_INPUTS = 243


def dearest(program, table, name, sizes, numbers, most=1000):
    check_table(table)
    shapes = shapes_of(program, name)
    check_inputs(shapes, sizes, numbers)
    found = None
    for args in inputs_of(shapes, sizes, numbers):
        price = price_of(trace(program, name, args, most)[3], table)
        if found is None or price > found[0]:
            found = (price, args)
    return found


def gap(program, table, paper, name, sizes, numbers, most=1000):
    found = dearest(program, table, name, sizes, numbers, most)
    return minus(value_at(paper[name][0], sizes), (found[0], 1))


def shapes_of(program, name):
    return [shape for param, shape in function_of(program, name)[1]]


def check_inputs(shapes, sizes, numbers):
    many = 1
    for shape, size in zip(shapes, sizes):
        many *= count_of(shape, size, len(set(numbers)))
    if many > MOST_INPUTS:
        raise TooMany("there are more than 243 inputs of these sizes")


# Counted, not made: there may be far too many of them.
def count_of(shape, size, many):
    if shape == "num":
        return many
    counted = forms_of(size) if shape == "tree" else 1
    for place in range(size):
        counted *= many
    return counted


# How many trees there are of so many nodes, but for their numbers.
def forms_of(size):
    forms = [1]
    for nodes in range(1, size + 1):
        forms.append(sum([forms[left] * forms[nodes - 1 - left] for left in range(nodes)]))
    return forms[size]


def inputs_of(shapes, sizes, numbers):
    inputs = [[]]
    for shape, size in zip(shapes, sizes):
        longer = []
        for value in values_of(shape, size, sorted(set(numbers))):
            longer.extend([args + [value] for args in inputs])
        inputs = longer
    return inputs


def values_of(shape, size, numbers):
    if shape == "num":
        return numbers
    if shape == "tree":
        return trees_of(size, numbers)
    lists = [()]
    for place in range(size):
        longer = []
        for number in numbers:
            longer.extend([(number,) + ahead for ahead in lists])
        lists = longer
    return lists


def trees_of(size, numbers):
    trees = [[None]]
    for nodes in range(1, size + 1):
        here = []
        for left in range(nodes):
            here.extend(nodes_over(trees[left], numbers, trees[nodes - 1 - left]))
        trees.append(here)
    return trees[size]


def nodes_over(lefts, numbers, rights):
    told = []
    for left in lefts:
        for number in numbers:
            told.extend([(left, number, right) for right in rights])
    return told
