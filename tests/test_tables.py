import copy
import unittest

from tests.samples import FLAT, LENGTH
from tests.tellers import BAD_TABLES, KINDS, WORDS, table_of
from toll.errors import NoTable
from toll.runs import trace
from toll.tables import plain_table, price_of

PRICES = {"call": 2, "make": 3, "sum": 5, "let": 7, "less": 11, "open": 13, "hold": 17}


def steps_of(text):
    return [(0, kind) for kind in text.split()]


class PlainTable(unittest.TestCase):
    def test_it_has_1_for_each(self):
        self.assertEqual(plain_table(), {"call": 1, "make": 1, "sum": 1, "let": 1, "less": 1, "open": 1, "hold": 1})
        self.assertTrue(all(price.__class__ is int for price in plain_table().values()))

    def test_it_is_new_each_time(self):
        first = plain_table()
        first["call"] = 9
        first["other"] = 3
        del first["hold"]
        self.assertEqual(plain_table(), {word: 1 for word in WORDS})

    def test_a_plain_table_is_a_table(self):
        self.assertEqual(price_of(steps_of("call open"), plain_table()), 2)


class PriceOf(unittest.TestCase):
    def test_no_steps(self):
        self.assertEqual(price_of([], plain_table()), 0)
        self.assertEqual(price_of([], PRICES), 0)

    def test_each_kind(self):
        for kind in KINDS:
            self.assertEqual(price_of([(0, kind)], PRICES), PRICES[kind])
            self.assertEqual(price_of([(3, kind)] * 4, PRICES), 4 * PRICES[kind])

    def test_many_steps(self):
        several = steps_of("call less sum call open make let let")
        self.assertEqual(price_of(several, PRICES), 2 + 11 + 5 + 2 + 13 + 3 + 14)
        many = [(number, KINDS[number % 6]) for number in range(2000)]
        self.assertEqual(price_of(many, PRICES), sum(PRICES[kind] for number, kind in many))
        self.assertEqual(price_of(many, plain_table()), 2000)

    def test_hold_is_no_part_of_it(self):
        self.assertEqual(price_of(steps_of("call"), table_of(hold=50)), 1)

    def test_prices_of_0_and_of_thirty_figures(self):
        great = 10 ** 30 - 1
        for kind in KINDS:
            self.assertEqual(price_of([(0, kind)], table_of(**{kind: 0})), 0)
            self.assertEqual(price_of([(0, kind)] * 3, table_of(**{kind: great})), 3 * great)
        self.assertEqual(price_of(steps_of("call open sum"), {word: 0 for word in WORDS}), 0)

    def test_the_order_of_the_table_does_not_matter(self):
        turned = {word: PRICES[word] for word in reversed(WORDS)}
        self.assertEqual(price_of(steps_of("call make open"), turned), 18)

    def test_steps_of_a_run(self):
        steps = trace(LENGTH, "length", [(4, 5, 6)])[3]
        self.assertEqual(price_of(steps, plain_table()), 11)
        self.assertEqual(price_of(steps, PRICES), 4 * 2 + 4 * 13 + 3 * 5)
        steps = trace(FLAT, "flat", [None])[3]
        self.assertEqual(price_of(steps, PRICES), 2 + 13)

    def test_what_is_handed_in_stays(self):
        steps = steps_of("call open make")
        table = dict(PRICES)
        self.assertEqual(price_of(steps, table), price_of(steps, table))
        self.assertEqual((steps, table), (steps_of("call open make"), PRICES))


class Refused(unittest.TestCase):
    def test_each_wrong_table(self):
        for table in BAD_TABLES:
            for steps in ([], [(0, "call")], steps_of("call open make sum let less")):
                kept = copy.copy(table)
                with self.subTest(table=table, steps=steps):
                    with self.assertRaises(NoTable):
                        price_of(steps, table)
                    self.assertEqual(table, kept)

    def test_behind_a_refusal_a_right_table_is_taken(self):
        table = table_of(call=-1)
        with self.assertRaises(NoTable):
            price_of([], table)
        table["call"] = 4
        self.assertEqual(price_of(steps_of("call"), table), 4)


if __name__ == "__main__":
    unittest.main()
