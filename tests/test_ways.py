import copy
import random
import unittest

from tests.samples import EVEN, FLAT, LENGTH, SAMPLES, any_program, any_value
from tests.tellers import BAD_TABLES, KINDS, table_of
from toll.errors import NoTable
from toll.runs import trace
from toll.tables import plain_table, price_of
from toll.ways import by_kind, by_way, own_prices, room_of, whole_prices

PRICES = {"call": 2, "make": 3, "sum": 5, "let": 7, "less": 11, "open": 13, "hold": 17}


def call(name, up, many=1):
    return (name, (0,) * many, up, True, 0)


# f calls g and h; g calls h, which calls g back, which calls k; the last h calls f.
CALLS = [call("f", None), call("g", 0, 2), call("h", 1, 3), call("g", 2, 2), call("k", 3), call("h", 0, 3), call("f", 5)]
STEPS = [(0, "call"), (6, "open"), (3, "let"), (3, "make"), (1, "call"), (6, "call"), (0, "sum"), (4, "less"),
         (4, "call"), (2, "call"), (0, "open"), (4, "call"), (5, "sum")]

LENGTH_RUN = trace(LENGTH, "length", [(8, 9)])
FLAT_RUN = trace(FLAT, "flat", [(None, 5, None)])


class Own(unittest.TestCase):
    def test_by_hand(self):
        self.assertEqual(own_prices(CALLS, STEPS, PRICES), [20, 2, 2, 10, 15, 5, 15])
        self.assertEqual(own_prices(CALLS, STEPS, plain_table()), [3, 1, 1, 2, 3, 1, 2])

    def test_of_a_run(self):
        self.assertEqual(own_prices(LENGTH_RUN[2], LENGTH_RUN[3], PRICES), [20, 20, 15])
        # flat of a node opens, calls flat of its left tree, lets, calls flat of its right one, makes, joins.
        self.assertEqual([one[0] for one in FLAT_RUN[2]], ["flat", "flat", "flat", "join"])
        self.assertEqual(own_prices(FLAT_RUN[2], FLAT_RUN[3], PRICES), [2 + 13 + 7 + 3, 15, 15, 15])

    def test_calls_without_steps(self):
        self.assertEqual(own_prices(CALLS, [], PRICES), [0] * 7)
        self.assertEqual(own_prices(CALLS[:1], [], PRICES), [0])
        self.assertEqual(own_prices(CALLS, [(3, "let")], PRICES), [0, 0, 0, 7, 0, 0, 0])

    def test_none_at_all(self):
        self.assertEqual(own_prices([], [], PRICES), [])


class Whole(unittest.TestCase):
    def test_by_hand(self):
        self.assertEqual(whole_prices(CALLS, STEPS, PRICES), [69, 29, 27, 25, 15, 20, 15])
        self.assertEqual(whole_prices(CALLS, STEPS, plain_table()), [13, 7, 6, 5, 3, 3, 2])

    def test_of_a_run(self):
        self.assertEqual(whole_prices(LENGTH_RUN[2], LENGTH_RUN[3], PRICES), [55, 35, 15])
        self.assertEqual(whole_prices(FLAT_RUN[2], FLAT_RUN[3], PRICES), [70, 15, 15, 15])

    def test_calls_without_steps(self):
        self.assertEqual(whole_prices(CALLS, [], PRICES), [0] * 7)
        self.assertEqual(whole_prices(CALLS, [(4, "less")], PRICES), [11, 11, 11, 11, 11, 0, 0])

    def test_none_at_all(self):
        self.assertEqual(whole_prices([], [], PRICES), [])

    def test_a_long_row_of_calls(self):
        calls = [call("f", number - 1 if number else None) for number in range(2000)]
        steps = [(number, "call") for number in range(2000)]
        self.assertEqual(whole_prices(calls, steps, plain_table()), list(range(2000, 0, -1)))


class ByWay(unittest.TestCase):
    def test_by_hand(self):
        self.assertEqual(by_way(CALLS, STEPS, PRICES), [
            (("f",), 35), (("f", "g"), 12), (("f", "g", "h"), 2), (("f", "g", "k"), 15), (("f", "h"), 5)])

    def test_a_way_is_cut_back_to_a_name_that_it_has(self):
        calls = [call("a", None), call("b", 0), call("c", 1), call("d", 2), call("b", 3), call("c", 4), call("a", 5),
                 call("d", 6), call("d", 7), call("c", 8)]
        self.assertEqual(by_way(calls, [(number, "call") for number in range(10)], plain_table()), [
            (("a",), 2), (("a", "b"), 2), (("a", "b", "c"), 2), (("a", "b", "c", "d"), 1), (("a", "d"), 2),
            (("a", "d", "c"), 1)])

    def test_a_call_to_itself_and_to_one_another(self):
        self.assertEqual(by_way(LENGTH_RUN[2], LENGTH_RUN[3], PRICES), [(("length",), 55)])
        run = trace(EVEN, "odd", [5])
        self.assertEqual(by_way(run[2], run[3], plain_table()), [(("odd",), 9), (("odd", "even"), 8)])
        self.assertEqual(by_way(FLAT_RUN[2], FLAT_RUN[3], PRICES), [(("flat",), 55), (("flat", "join"), 15)])

    def test_the_order_is_that_of_calls_not_of_steps(self):
        calls = [call("f", None), call("g", 0), call("a", 0), call("g", 2), call("a", 1)]
        steps = [(4, "call"), (3, "call"), (2, "call"), (1, "call"), (0, "call")]
        self.assertEqual(by_way(calls, steps, plain_table()), [
            (("f",), 1), (("f", "g"), 1), (("f", "a"), 1), (("f", "a", "g"), 1), (("f", "g", "a"), 1)])

    def test_ways_without_steps_are_told(self):
        self.assertEqual(by_way(CALLS, [(0, "call")], PRICES), [
            (("f",), 2), (("f", "g"), 0), (("f", "g", "h"), 0), (("f", "g", "k"), 0), (("f", "h"), 0)])

    def test_none_at_all(self):
        self.assertEqual(by_way([], [], PRICES), [])


class ByKind(unittest.TestCase):
    def test_by_hand(self):
        self.assertEqual(by_kind(STEPS, PRICES), {"call": 12, "make": 3, "sum": 10, "let": 7, "less": 11, "open": 26})
        self.assertEqual(by_kind(STEPS, plain_table()), {"call": 6, "make": 1, "sum": 2, "let": 1, "less": 1, "open": 2})

    def test_kinds_without_steps_are_told(self):
        self.assertEqual(by_kind([], PRICES), {kind: 0 for kind in KINDS})
        self.assertEqual(by_kind([(0, "call")], PRICES), {**{kind: 0 for kind in KINDS}, "call": 2})

    def test_of_a_run(self):
        self.assertEqual(by_kind(LENGTH_RUN[3], PRICES), {"call": 6, "make": 0, "sum": 10, "let": 0, "less": 0, "open": 39})


class Room(unittest.TestCase):
    def test_by_hand(self):
        # f 2, g 3, h 4, g 3, k 2 at one time; f 2, h 4, f 2 at another.
        self.assertEqual(room_of(CALLS, plain_table()), 14)
        self.assertEqual(room_of(CALLS, PRICES), 14 * 17)
        self.assertEqual(room_of(CALLS[:1] + [call("h", 0, 3), call("f", 1)], plain_table()), 8)

    def test_the_most_is_not_the_last(self):
        calls = [call("f", None), call("g", 0, 4), call("g", 0, 4), call("h", 0)]
        self.assertEqual(room_of(calls, plain_table()), 7)

    def test_a_call_without_args(self):
        self.assertEqual(room_of([("f", (), None, True, 0)], table_of(hold=5)), 5)

    def test_of_a_run(self):
        self.assertEqual(room_of(LENGTH_RUN[2], plain_table()), 6)
        self.assertEqual(room_of(trace(LENGTH, "length", [tuple(range(40))])[2], plain_table()), 40)
        self.assertEqual(room_of(FLAT_RUN[2], plain_table()), 5)

    def test_no_call_and_a_hold_of_0(self):
        self.assertEqual(room_of([], PRICES), 0)
        self.assertEqual(room_of(CALLS, table_of(hold=0)), 0)

    def test_only_hold_counts(self):
        self.assertEqual(room_of(CALLS[:1], table_of(call=9, open=9)), 2)


class Together(unittest.TestCase):
    def parts(self, calls, steps, table):
        whole = price_of(steps, table)
        self.assertEqual(sum(own_prices(calls, steps, table)), whole)
        self.assertEqual(sum(by_kind(steps, table).values()), whole)
        self.assertEqual(sum(price for way, price in by_way(calls, steps, table)), whole)
        self.assertEqual(whole_prices(calls, steps, table)[0] if calls else 0, whole)
        self.assertTrue(all(len(set(way)) == len(way) for way, price in by_way(calls, steps, table)))

    def test_all_parts_come_to_the_whole(self):
        chance = random.Random(8)
        self.parts(CALLS, STEPS, PRICES)
        self.parts([], [], PRICES)
        for time in range(200):
            program = any_program(chance)
            name, params = program[0][:2]
            args = [any_value(chance, shape) for param, shape in params]
            run = trace(program, name, args, chance.choice((0, 5, 30, 400)))
            table = {word: chance.randint(0, 10 ** chance.randint(0, 30)) for word in KINDS + ("hold",)}
            self.parts(run[2], run[3], table)
            shuffled = list(run[3])
            chance.shuffle(shuffled)
            self.parts(run[2], shuffled, table)
            self.assertEqual(own_prices(run[2], shuffled, table), own_prices(run[2], run[3], table))
            self.assertEqual(by_way(run[2], shuffled, table), by_way(run[2], run[3], table))

    def test_what_is_handed_in_stays_and_what_is_told_is_new(self):
        kept = copy.deepcopy((CALLS, STEPS, PRICES))
        asks = (
            lambda: own_prices(CALLS, STEPS, PRICES), lambda: whole_prices(CALLS, STEPS, PRICES),
            lambda: by_way(CALLS, STEPS, PRICES), lambda: by_kind(STEPS, PRICES), lambda: room_of(CALLS, PRICES))
        for ask in asks:
            first = ask()
            due = copy.deepcopy(first)
            self.assertEqual(ask(), due)
            if not isinstance(first, int):
                first.clear()
            self.assertEqual(ask(), due)
            self.assertEqual((CALLS, STEPS, PRICES), kept)

    def test_wrong_tables(self):
        for calls, steps in ((CALLS, STEPS), (CALLS, []), ([], [])):
            for table in BAD_TABLES:
                for ask in (
                        lambda: own_prices(calls, steps, table), lambda: whole_prices(calls, steps, table),
                        lambda: by_way(calls, steps, table), lambda: by_kind(steps, table),
                        lambda: room_of(calls, table)):
                    with self.assertRaises(NoTable):
                        ask()

    def test_samples(self):
        for text, program in SAMPLES:
            for name, params, gives, body in program:
                chance = random.Random(name)
                run = trace(program, name, [any_value(chance, shape, 9) for param, shape in params])
                self.parts(run[2], run[3], PRICES)


if __name__ == "__main__":
    unittest.main()
