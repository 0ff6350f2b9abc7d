"""What several tests ask with: tables, wrong ones, ratios, and a second, plain make of some reckonings."""

from fractions import Fraction
from math import comb

KINDS = ("call", "make", "sum", "let", "less", "open")
WORDS = KINDS + ("hold",)


def table_of(**prices):
    """The plain table but for some prices."""
    return {**{word: 1 for word in WORDS}, **prices}


def without(word):
    table = table_of()
    del table[word]
    return table


NO_PRICES = (True, False, "1", "", None, (), (1,), [], [1], {}, 1.0, 0.5, -1, -(10 ** 20), object(), b"1", (1, 1))
OTHER_KEYS = ("", "Call", "calls", "hold ", "nil", "num", 0, 1, -3, True, False, None, (), ("call",), 1.5, b"call")

BAD_TABLES = (
    [{}] + [without(word) for word in WORDS] + [{**table_of(), key: 1} for key in OTHER_KEYS]
    + [{**without(word), key: 1} for word in ("call", "hold", "open") for key in OTHER_KEYS]
    + [{**table_of(), word: price} for word in WORDS for price in NO_PRICES]
)


def fraction(one):
    """The number that a ratio is, if it is a ratio at all."""
    assert isinstance(one, tuple) and len(one) == 2, one
    assert one[0].__class__ is int and one[1].__class__ is int and one[1] >= 1, one
    made = Fraction(one[0], one[1])
    assert (made.numerator, made.denominator) == one, one
    return made


def ratio_of(number):
    made = Fraction(number)
    return (made.numerator, made.denominator)


def sum_of(*parts):
    """A sum, of tuples (powers, number) that are in their order already."""
    return tuple((powers, ratio_of(number)) for powers, number in parts)


def value_by_hand(one, sizes):
    """The value of a sum, by Python's own reckoning."""
    value = Fraction(0)
    for powers, share in one:
        assert len(powers) == len(sizes), (powers, sizes)
        ways = 1
        for size, power in zip(sizes, powers):
            ways *= comb(size, power)
        value += fraction(share) * ways
    return value


def is_sum(one, many):
    """Whether it is a sum over so many sizes, in its one form."""
    if not isinstance(one, tuple) or any(not isinstance(part, tuple) or len(part) != 2 for part in one):
        return False
    powers = [part[0] for part in one]
    if any(not isinstance(each, tuple) or len(each) != many for each in powers):
        return False
    if any(power.__class__ is not int or power < 0 for each in powers for power in each):
        return False
    return powers == sorted(set(powers)) and all(fraction(share) != 0 for each, share in one)
