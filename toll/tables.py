"""Tables of prices, and the price of steps."""

from toll.errors import NoTable
from toll.programs import is_whole

KINDS = ("call", "make", "sum", "let", "less", "open")
WORDS = ("call", "make", "sum", "let", "less", "open", "hold")


def plain_table():
    return dict([(word, 1) for word in WORDS])


def is_price(thing):
    return is_whole(thing) and thing >= 0


def check_table(table):
    if len(table) != len(WORDS) or not all([word in table for word in WORDS]):
        raise NoTable("a table has a price for each kind of step and for hold, and nothing else")
    if not all([is_price(table[word]) for word in WORDS]):
        raise NoTable("a price is a whole number from 0 on")


def price_of(steps, table):
    check_table(table)
    return sum([table[kind] for number, kind in steps])
