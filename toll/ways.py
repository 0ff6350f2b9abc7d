"""The parts of a price, by calls, by ways and by kinds, and the room of a run."""

from toll.tables import KINDS, check_table


def own_prices(calls, steps, table):
    check_table(table)
    prices = [0 for call in calls]
    for number, kind in steps:
        prices[number] += table[kind]
    return prices


def whole_prices(calls, steps, table):
    prices = own_prices(calls, steps, table)
    # From the last one back: a call stands behind the one above it, so it is whole when it is added to that one.
    for number in range(len(calls) - 1, 0, -1):
        prices[calls[number][2]] += prices[number]
    return prices


def by_way(calls, steps, table):
    parts = {}
    for way, price in zip(ways_of(calls), own_prices(calls, steps, table)):
        parts[way] = parts.get(way, 0) + price
    return list(parts.items())


def ways_of(calls):
    ways = []
    for call in calls:
        above = () if call[2] is None else ways[call[2]]
        ways.append(way_on(above, call[0]))
    return ways


def way_on(above, name):
    if name in above:
        return above[:above.index(name) + 1]
    return above + (name,)


def by_kind(steps, table):
    check_table(table)
    parts = dict([(kind, 0) for kind in KINDS])
    for number, kind in steps:
        parts[kind] += table[kind]
    return parts


def held_by(many, table):
    return table["hold"] * (many + 1)


def room_of(calls, table):
    check_table(table)
    rooms = []
    for call in calls:
        above = 0 if call[2] is None else rooms[call[2]]
        rooms.append(above + held_by(len(call[1]), table))
    return max(rooms, default=0)
