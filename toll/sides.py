"""Two functions side by side, and from where on one sum is above another."""

from toll.near import check_inputs, dearest, shapes_of
from toll.ratios import minus, multiple
from toll.sums import choices
from toll.tables import check_table


def side_by_side(program, table, one, other, end, numbers, most=1000):
    check_table(table)
    both = [(name, shapes_of(program, name)) for name in (one, other)]
    for size in range(end + 1):
        for name, shapes in both:
            check_inputs(shapes, alike(shapes, size), numbers)
    columns = [prices_to(program, table, name, end, numbers, most) for name in (one, other)]
    pairs = list(zip(columns[0], columns[1]))
    return (start_of(pairs), pairs)


def alike(shapes, size):
    return [0 if shape == "num" else size for shape in shapes]


# A function of nums alone has the same inputs at each size, so they are run once.
def prices_to(program, table, name, end, numbers, most):
    known = {}
    prices = []
    for size in range(end + 1):
        sizes = alike(shapes_of(program, name), size)
        if tuple(sizes) not in known:
            known[tuple(sizes)] = dearest(program, table, name, sizes, numbers, most)[0]
        prices.append(known[tuple(sizes)])
    return prices


def start_of(pairs):
    start = len(pairs)
    while start > 0 and pairs[start - 1][0] > pairs[start - 1][1]:
        start -= 1
    return start


def above_from(one, other):
    last = stretches(difference(one, other))[-1]
    return last[0] if last[1] else None


# The first sum less the second one, taken times what makes it whole: at k the number for the power k. The last one
# isn't 0.
def difference(one, other):
    first = dict([(powers[0], share) for powers, share in one])
    second = dict([(powers[0], share) for powers, share in other])
    highest = max(list(first) + list(second), default=-1)
    shares = [minus(first.get(power, (0, 1)), second.get(power, (0, 1))) for power in range(highest + 1)]
    by = multiple([share[1] for share in shares])
    numbers = [share[0] * (by // share[1]) for share in shares]
    while numbers and numbers[-1] == 0:
        numbers.pop()
    return numbers


def value_of(numbers, size):
    return sum([number * choices(size, power) for power, number in enumerate(numbers)])


# The sizes from 0 on in stretches, as tuples (first size, whether the value is above 0 there), by turns.
#
# From one size to the next the value grows by the value of the same numbers without the first. So where that one is
# above 0 all along, the value rises, and where it isn't, it doesn't, up to the next stretch's first size: on the way
# there it turns at most once.
def stretches(numbers):
    if len(numbers) < 2:
        return [(0, numbers != [] and numbers[0] > 0)]
    steps = stretches(numbers[1:])
    told = [(0, numbers[0] > 0)]
    for place, step in enumerate(steps):
        last = steps[place + 1][0] if place + 1 < len(steps) else far_enough(numbers, step)
        if step[1] != told[-1][1] and (value_of(numbers, last) > 0) == step[1]:
            told.append((turn_within(numbers, step, last), step[1]))
    return told


# The first size of the step where the value is as it is at the last one.
def turn_within(numbers, step, last):
    low = step[0]
    high = last
    while low < high:
        middle = (low + high) // 2
        if (value_of(numbers, middle) > 0) == step[1]:
            high = middle
        else:
            low = middle + 1
    return low


# A size behind the last turn: there is one, since at the end the value rises or falls without an end.
def far_enough(numbers, step):
    far = 1
    while (value_of(numbers, step[0] + far) > 0) != step[1]:
        far *= 2
    return step[0] + far
