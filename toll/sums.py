"""Sums of products of sizes, and lines over sizes."""

from toll.ratios import plus, times, under


# The number of ways to take so many out of many things.
def choices(many, taken):
    ways = 1
    for step in range(taken):
        ways = ways * (many - step) // (step + 1)
    return ways


def gathered(parts):
    together = {}
    for powers, share in parts:
        together[powers] = plus(together.get(powers, (0, 1)), share)
    return tuple([(powers, together[powers]) for powers in sorted(together) if together[powers][0] != 0])


def added(one, other):
    return gathered(list(one) + list(other))


def scaled(one, by):
    return gathered([(powers, times(share, by)) for powers, share in one])


def value_at(one, sizes):
    value = (0, 1)
    for powers, share in one:
        ways = 1
        for size, power in zip(sizes, powers):
            ways *= choices(size, power)
        value = plus(value, times(share, (ways, 1)))
    return value


def covers(one, other):
    rest = added(one, scaled(other, (-1, 1)))
    return not any([under(share, (0, 1)) for powers, share in rest])


def line_at(line, sizes):
    return line[0] + sum([number * size for number, size in zip(line[1:], sizes)])


def line_laid(line, lines, many):
    laid_in = [line[0]] + [0] * many
    for number, other in zip(line[1:], lines):
        laid_in = [here + number * there for here, there in zip(laid_in, other)]
    return tuple(laid_in)


def laid(one, lines, many):
    highest = max([max(powers, default=0) for powers, share in one], default=0)
    spreads = spreads_of(lines, many, highest)
    parts = []
    for powers, share in one:
        for met, ways in product_at(powers, spreads, many).items():
            parts.append((met, times(share, (ways, 1))))
    return gathered(parts)


# From here on what is built of the ways to take things out of sizes is a dict from powers to whole numbers, and a
# spread is a list of such dicts: at k the ways to take k out of as many things as a line tells.


def product_at(powers, spreads, many):
    product = {(0,) * many: 1}
    for power, spread in zip(powers, spreads):
        if power > 0:
            product = multiplied(product, spread[power])
    return product


def spreads_of(lines, many, highest):
    return [spread_of(line, many, highest) for line in lines]


# To take k out of the things of several heaps is to take some of the first one and the rest of the others: so the
# spread grows heap by heap, the line's own number first, then each of its sizes.
def spread_of(line, many, highest):
    spread = [{(0,) * many: choices(line[0], power)} for power in range(highest + 1)]
    for place in range(many):
        if line[place + 1] > 0:
            spread = grown(spread, place, heaps_of(line[place + 1], highest))
    return [without_noughts(one) for one in spread]


def without_noughts(one):
    return dict([(powers, ways) for powers, ways in one.items() if ways != 0])


# At [e][k]: how many ways there are to take k out of e heaps of so many things, something out of each. So all the ways
# to take k out of n such heaps are the sum, over e, of this times the ways to take e out of n.
def heaps_of(number, highest):
    single = [0] + [choices(number, power) for power in range(1, highest + 1)]
    heaps = [[1] + [0] * highest]
    for heap in range(highest):
        heaps.append([taken_of_both(heaps[-1], single, power) for power in range(highest + 1)])
    return heaps


def taken_of_both(one, other, power):
    return sum([one[power - taken] * other[taken] for taken in range(power + 1)])


# The size at the place stands in none of the spread's powers yet.
def grown(spread, place, heaps):
    told = [{} for one in spread]
    for here, one in enumerate(spread):
        for powers, ways in one.items():
            for more in range(len(spread) - here):
                for heap in range(more + 1):
                    met = powers[:place] + (heap,) + powers[place + 1:]
                    count_in(told[here + more], met, ways * heaps[heap][more])
    return told


def count_in(told, powers, ways):
    if ways != 0:
        told[powers] = told.get(powers, 0) + ways


def multiplied(one, other):
    product = {}
    for powers, ways in one.items():
        for more, by in other.items():
            for met, counted in meetings(powers, more):
                product[met] = product.get(met, 0) + ways * by * counted
    return product


# To take some things out of a heap, and then some out of the same heap again, is to take the things that were taken
# once or twice, and to tell which were taken when.
def meetings(powers, more):
    told = [((), 1)]
    for first, second in zip(powers, more):
        longer = []
        for both in range(max(first, second), first + second + 1):
            counted = choices(both, first) * choices(first, first + second - both)
            longer.extend([(ahead + (both,), ways * counted) for ahead, ways in told])
        told = longer
    return told
