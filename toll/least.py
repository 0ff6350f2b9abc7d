"""The least unknown numbers that meet some rows, and weights that show why nothing is less, or why there are none."""

from toll.errors import TooMany
from toll.ratios import multiple, ratio

MOST_UNKNOWNS = 24


def check_unknowns(many):
    if many > MOST_UNKNOWNS:
        raise TooMany("there are more than twenty-four unknowns")


def least(costs, rows):
    check_unknowns(len(costs))
    search = Search(costs, rows)
    weights = search.go()
    if weights is not None:
        return ("none", weights)
    return ("least", search.value(), search.unknowns(), search.weights())


def whole(one, by):
    return one[0] * (by // one[1])


# A row in whole numbers: the places and numbers that are not 0, the bound, and what it all was taken times.
def whole_row(row):
    by = multiple([one[1] for one in row[0]] + [row[1][1]])
    numbers = [(place, whole(one, by)) for place, one in enumerate(row[0]) if one[0] != 0]
    return (numbers, whole(row[1], by), by)


# The weights are looked for, and the unknowns come along: weights of 0 keep to all costs, since no cost is below 0, and
# from there each turn lets a row that the unknowns don't meet have weight, so far as the costs allow it. As many things
# as there are unknowns have weight at a time: rows, by their numbers, or gaps (what is left of a cost), by the numbers
# behind those of the rows.
#
# All is kept in whole numbers, over one bottom: in each line of the table first the weight of the line's thing, and
# behind it how this weight would grow with each of the costs; in the goal first the value, and behind it the unknowns.
class Search:
    def __init__(self, costs, rows):
        self.by = multiple([cost[1] for cost in costs])
        self.rows = [whole_row(row) for row in rows]
        self.many = len(costs)
        self.table = [[whole(cost, self.by)] + self.alone(place) for place, cost in enumerate(costs)]
        self.goal = [0] * (self.many + 1)
        self.bottom = 1
        self.things = [len(rows) + place for place in range(self.many)]

    def alone(self, place):
        return [1 if other == place else 0 for other in range(self.many)]

    # None where all rows are met at last; else weights that show that they can't be.
    def go(self):
        found = self.worst()
        while found is not None:
            column = [self.grows(line, found[1]) for line in self.table]
            if all([number <= 0 for number in column]):
                return self.endless(found[1], column)
            self.turn(found, column)
            found = self.worst()
        return None

    # What is missed by most: (by how much, the thing); None where nothing is missed.
    def worst(self):
        found = None
        for thing, row in enumerate(self.rows):
            missed = row[1] * self.bottom - self.grows(self.goal, thing)
            if missed > 0 and (found is None or missed > found[0]):
                found = (missed, thing)
        for place in range(self.many):
            missed = -self.goal[place + 1]
            if missed > 0 and (found is None or missed > found[0]):
                found = (missed, len(self.rows) + place)
        return found

    def grows(self, line, thing):
        if thing >= len(self.rows):
            return line[thing - len(self.rows) + 1]
        return sum([number * line[place + 1] for place, number in self.rows[thing][0]])

    def turn(self, found, column):
        place = self.first_out(column)
        chosen = self.table[place]
        by = column[place]
        self.goal = self.moved(self.goal, chosen, by, -found[0])
        self.table = [
            chosen if here == place else self.moved(line, chosen, by, column[here])
            for here, line in enumerate(self.table)
        ]
        self.bottom = by
        self.things[place] = found[1]

    # The division leaves no rest: each number of the table is, up to its sign, a determinant of the rows' numbers.
    def moved(self, line, chosen, by, share):
        return [(number * by - other * share) // self.bottom for number, other in zip(line, chosen)]

    # The line that is least over its number in the column. Where several lines have weights that are alike so, what
    # stands behind the weights tells them apart; by that no turn leads back to where the search was before.
    def first_out(self, column):
        first = None
        for place, number in enumerate(column):
            if number > 0 and (first is None or self.ahead(place, first, column)):
                first = place
        return first

    def ahead(self, place, first, column):
        one = [number * column[first] for number in self.table[place]]
        return one < [number * column[place] for number in self.table[first]]

    # The thing's weight may grow without an end, and the others' with it, and the value grows all the while.
    def endless(self, thing, column):
        weights = dict([(other, -number) for other, number in zip(self.things, column)])
        weights[thing] = self.bottom
        return self.shown(weights, self.bottom)

    def shown(self, weights, bottom):
        return [ratio(weights.get(place, 0) * row[2], bottom) for place, row in enumerate(self.rows)]

    def value(self):
        return ratio(self.goal[0], self.bottom * self.by)

    def unknowns(self):
        return [ratio(number, self.bottom) for number in self.goal[1:]]

    def weights(self):
        weights = dict([(thing, line[0]) for thing, line in zip(self.things, self.table)])
        return self.shown(weights, self.bottom * self.by)
