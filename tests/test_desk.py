import random
import unittest
from fractions import Fraction

from tests.samples import EVEN_TEXT, FLAT_TEXT, JOIN_TEXT, LENGTH_TEXT, PUT_TEXT, any_value, measured_program
from tests.tellers import WORDS, fraction, value_by_hand
from toll.args import show_arg, show_ratio
from toll.desk import Desk
from toll.errors import NoFunction, NoPaper, NoProgram, NoRow, NoSize, NoTable, NoText, NoValue, TooMany
from toll.finds import find
from toll.runs import trace
from toll.tables import plain_table, price_of
from toll.texts import read, show
from toll.ways import room_of, whole_prices

GREAT = "9" * 60
SHORT_TEXT = "(fn f ((xs list)) (list 0 0) (give xs))"
MANY_TEXT = "(fn f ((a list) (b list) (c list) (d list)) (num 0 0 0 0 0) (give 0))"
HALF_TEXT = "(fn f ((xs list)) (num 0 0) (list xs (give 0) (a b) (list b (give 0) (c d) (give (call f d)))))"
SLOW_TEXT = "(fn f ((xs list)) (num 0 0) (list xs (give 0) (h t) (give (add (call f t) (call f t)))))"


class AtADesk(unittest.TestCase):
    def say(self, desk, *rows):
        """Rows told as `row -> answer`."""
        for row in rows:
            told, due = row.split(" -> ")
            self.assertEqual(desk.say(told), due, told)

    def refused(self, desk, error, *rows):
        for row in rows:
            with self.subTest(row=row):
                with self.assertRaises(error) as caught:
                    desk.say(row)
                self.assertIs(caught.exception.__class__, error)

    def desk(self, text, *rows):
        desk = Desk()
        self.say(desk, "program " + text + " -> ok", *rows)
        return desk


class Rows(AtADesk):
    def test_program(self):
        desk = Desk()
        self.say(desk, "program " + LENGTH_TEXT + " -> ok", "run length [1,2] -> done 8 6")
        self.say(desk, "program   \n" + JOIN_TEXT.replace(" ", "\n ") + "\n  -> ok", "run join [1,2] [] -> done 8 9")
        self.refused(desk, NoFunction, "run length [1,2]")

    def test_price(self):
        desk = self.desk(LENGTH_TEXT, "run length [1] -> done 5 4")
        self.say(desk, "price call 10 -> ok", "run length [1] -> done 23 4", "price open 0 -> ok", "run length [1] -> done 21 4",
                 "price sum 100 -> ok", "run length [1] -> done 120 4", "price hold 7 -> ok", "run length [1] -> done 120 28",
                 "price call 0 -> ok", "run length [1] -> done 100 28", "price make 5 -> ok", "price let 5 -> ok",
                 "price less 5 -> ok", "run length [1] -> done 100 28", f"price sum {GREAT} -> ok",
                 f"run length [1] -> done {GREAT} 28")

    def test_a_price_ahead_of_any_program(self):
        desk = Desk()
        self.say(desk, "price sum 3 -> ok", "program " + LENGTH_TEXT + " -> ok", "run length [1] -> done 7 4")

    def test_prices_stay_with_another_program(self):
        desk = self.desk(LENGTH_TEXT, "price open 5 -> ok", "program " + PUT_TEXT + " -> ok", "run put 1 . -> done 7 3")

    def test_find(self):
        desk = self.desk(LENGTH_TEXT, "find 1 10 -> bound 32 22", "find 1 0 -> bound 2 2", "find 3 1000 -> bound 3002 2002",
                         "find 0 10 -> none price")
        self.say(desk, "program " + HALF_TEXT + " -> ok", "find 1 1 -> bound 7/2 3", "find 1 3 -> bound 13/2 5")
        self.say(desk, "program " + FLAT_TEXT + " -> ok", "find 2 10 -> bound 249 65", "find 1 10 -> none price",
                 "price make 0 -> ok", "price call 0 -> ok", "price open 0 -> ok", "price let 0 -> ok",
                 "find 0 10 -> none room", "find 1 10 -> bound 0 65")
        self.say(desk, "program " + EVEN_TEXT + " -> ok", "find 3 10 -> none price", "price hold 0 -> ok", "price sum 0 -> ok",
                 "price less 0 -> ok", "find 0 5 -> bound 0 0")

    def test_run(self):
        self.desk(FLAT_TEXT, "run flat . -> done 2 2", "run flat (.,5,.) -> done 10 5",
                  "run flat ((.,-1,.),2,(.,3,.)) -> done 29 8", "run join [1,2] [3] -> done 8 9", "run join [] [] -> done 2 3")
        self.desk(PUT_TEXT, "run put -5 (.,3,.) -> done 7 6")
        self.desk(EVEN_TEXT, "run even 2 -> done 8 6", "run even -2 -> done 2 2", "run even 19 -> done 59 40",
                  "run even 20 -> cut 60 40")

    def test_a_run_is_cut_at_a_thousand_steps(self):
        self.desk(SLOW_TEXT, "run f [1,2,3,4,5,6,7,8] -> cut 1000 18", "run f [1,2,3,4,5,6,7] -> done 637 16",
                  "price call 3 -> ok", "run f [1,2,3,4,5,6,7] -> done 1147 16")

    def test_ahead(self):
        desk = self.desk(LENGTH_TEXT, "find 1 10 -> bound 32 22", "ahead length [1,2] -> 8 6", "ahead length [] -> 2 2")
        self.say(desk, "program " + HALF_TEXT + " -> ok", "find 1 5 -> bound 19/2 7", "ahead f [1] -> 7/2 3",
                 "ahead f [1,2] -> 5 4")
        self.desk(FLAT_TEXT, "find 2 10 -> bound 249 65", "ahead flat ((.,-1,.),2,(.,3,.)) -> 35 11",
                  "ahead join [1] [2,3] -> 5 6", "run flat ((.,-1,.),2,(.,3,.)) -> done 29 8")
        self.desk(PUT_TEXT, "find 1 10 -> bound 43 33", f"ahead put {GREAT} . -> 3 3", "ahead put -7 (.,1,.) -> 7 6")

    def test_ways(self):
        self.desk(FLAT_TEXT, "ways flat . -> flat=2", "ways flat (.,5,.) -> flat=8 flat/join=2", "ways join [1] [] -> join=5")
        self.desk(EVEN_TEXT, "ways even 3 -> even=6 even/odd=5", "ways odd 0 -> odd=2", "price less 0 -> ok",
                  "ways odd 1 -> odd=2 odd/even=1", "ways even 40 -> even=20 even/odd=20")

    def test_from_the_text_to_the_bound(self):
        sort = ("(fn ins ((n num) (xs list)) (list 1 0 1) (list xs (give (cons n nil)) (h t)"
                " (less n h (give (cons n xs)) (give (cons h (call ins n t))))))"
                "\n(fn sort ((xs list)) (list 0 1) (list xs (give nil) (h t) (give (call ins h (call sort t)))))")
        self.desk(sort, "find 1 10 -> none price", "find 2 10 -> bound 275 65", "ahead sort [3,2,1] -> 29 11",
                  "run sort [3,2,1] -> done 29 11", "run sort [1,2,3] -> done 19 9",
                  "ways sort [3,2,1] -> sort=8 sort/ins=21", "price less 10 -> ok", "find 2 10 -> bound 770 65",
                  "ahead sort [3,2,1] -> 56 11", "run sort [3,2,1] -> done 56 11")


class NoRows(AtADesk):
    NONE = (
        "", " ", "  ", "\n", "run", "ahead", "ways", "find", "price", "program", "Program x", "programs x", "PROGRAM x",
        "prog x", "help", "runs f", "Run f 1", "ok", "finds 1 2", "find 1", "find 1 2 3", "find 1 2 ", "find  1 2", " find 1 2",
        "find 1  2", "find ", "find  ", "find 1 ", "price call", "price call ", "price call 1 ", "price  call 1",
        " price call 1", "price call 1 2", "price call  1", "price call x", "price call 01", "price call -0", "price call +1",
        "price call 1.0", "price call 1" + "0" * 60, "price call -1" + "0" * 60, "price call 1\n", "price nokind x",
        "price  x", "price 1", "price", "price ", "find 4 1", "find -1 1", "find 01 1", "find 1 01", "find 1 1001", "find 1 -1",
        "find 1 -0", "find +1 1", "find x 1", "find 1 x", "find 1 1.0", "find 10 1", "find 1 " + "9" * 60, "find 1 1\n",
        " run length [1]", " program " + LENGTH_TEXT, "\nrun length [1]", "run\nlength [1]", "program\n" + LENGTH_TEXT,
        " ahead length [1]", " ways length [1]", "program\t" + LENGTH_TEXT, "runlength [1]", "length [1]", LENGTH_TEXT,
    )
    THINGS = (None, 0, 1, True, (), ("run", "length"), [], ["run length [1]"], {}, b"run length [1]", 1.5, object())

    def test_each(self):
        for desk in (Desk(), self.desk(LENGTH_TEXT, "find 1 10 -> bound 32 22")):
            self.refused(desk, NoRow, *self.NONE)
            self.refused(desk, NoRow, *self.THINGS)
        self.say(desk, "ahead length [1] -> 5 4", "run length [1] -> done 5 4")

    def test_words_without_signs_are_words(self):
        desk = Desk()
        self.refused(desk, NoTable, "price  5", "price  -5")
        self.refused(desk, NoProgram, "run ", "run  ", "ahead ", "ways ", "run  length [1]", "run length [1] ")
        desk = self.desk(LENGTH_TEXT)
        self.refused(desk, NoFunction, "run ", "run  ", "ahead ", "ways ", "run  length [1]", "ways  length [1]")
        self.refused(desk, NoValue, "run length ", "run length [1] ", "run length  [1]", "ahead length ", "ways length  ")

    def test_numbers_at_the_edge(self):
        self.desk(LENGTH_TEXT, "find 3 1000 -> bound 3002 2002", "find 0 0 -> none price", f"price call {GREAT} -> ok")


class Refusals(AtADesk):
    def test_no_program_stands(self):
        desk = Desk()
        self.refused(desk, NoProgram, "find 1 10", "run f", "run f 1", "run length [1]", "ahead length [1]", "ways length [1]",
                     "ahead f", "ways f x", "run F -0")

    def test_program(self):
        for desk in (Desk(), self.desk(LENGTH_TEXT)):
            self.refused(desk, NoText, "program x", "program (", "program )", "program (fn)", "program fn", "program 1",
                         "program " + LENGTH_TEXT + ")", "program " + LENGTH_TEXT + "\t", "program \u00e9",
                         "program program " + LENGTH_TEXT)
            self.refused(desk, NoProgram, "program ", "program  ", "program \n", "program " + LENGTH_TEXT + LENGTH_TEXT,
                         "program (fn f () (num 0) (give 0))", "program (fn f ((a num)) (num 0) (give a))",
                         "program (fn f ((a num)) (num 0 0) (give b))")

    def test_price(self):
        for desk in (Desk(), self.desk(LENGTH_TEXT)):
            self.refused(desk, NoTable, "price calls 1", "price Call 1", "price nil 1", "price 1 1", "price call -1",
                         "price hold -1", "price other -1", f"price call -{GREAT}", "price call\n 1", "price price 1",
                         "price [] 0")

    def test_find(self):
        desk = self.desk(SHORT_TEXT)
        for row in ("find 0 0", "find 3 10"):
            with self.assertRaises(NoSize) as caught:
                desk.say(row)
            self.assertEqual(caught.exception.at, ("f", 0))
        desk = self.desk(MANY_TEXT)
        self.refused(desk, TooMany, "find 3 0", "find 3 1000")
        self.say(desk, "find 2 10 -> bound 1 5")
        desk = self.desk(MANY_TEXT + "(fn g ((xs list)) (list 0 0) (give xs))")
        self.refused(desk, NoSize, "find 3 0")

    def test_run_ahead_and_ways_in_their_order(self):
        desk = self.desk(JOIN_TEXT)
        for word in ("run", "ahead", "ways"):
            self.refused(desk, NoFunction, *[word + rest for rest in (
                " f", " JOIN [] []", " f [] []", " f x", " f -0 1 2 3", " join\n [] []", " ", "  [] []", " [] join")])
            self.refused(desk, NoValue, *[word + rest for rest in (
                " join", " join []", " join [] [] []", " join [] 1", " join 1 []", " join . []", " join [] (.,1,.)",
                " join [ [", " join [01] []", " join [] [-0]", " join [1, 2]", " join [] []\n", " join [] x", " join [] ",
                " join  []", " join [] [" + "1" * 61 + "]", " join [] [" + ",".join(["1"] * 41) + "]")])
        self.refused(desk, NoPaper, "ahead join [] []", "ahead join [1] [2,3]")
        forty = "[" + ",".join(["1"] * 40) + "]"
        self.say(desk, f"run join [] {forty} -> done 2 3")
        self.refused(desk, NoPaper, f"ahead join {forty} {forty}")


class Kept(AtADesk):
    def test_behind_a_refusal_all_is_as_it_was(self):
        desk = self.desk(LENGTH_TEXT, "price sum 2 -> ok", "find 1 10 -> bound 42 22")
        for error, row in (
                (NoRow, "run"), (NoRow, "price call x"), (NoRow, "find 9 9"), (NoText, "program ("), (NoProgram, "program "),
                (NoProgram, "program " + LENGTH_TEXT * 2), (NoTable, "price call -1"), (NoTable, "price x 5"),
                (NoFunction, "run f"), (NoValue, "run length 1"), (NoFunction, "ahead f"), (NoValue, "ways length")):
            self.refused(desk, error, row)
            self.say(desk, "ahead length [1,2] -> 10 6", "run length [1,2] -> done 10 6", "ways length [1,2] -> length=10")

    def test_behind_a_refused_find_the_paper_stands(self):
        desk = self.desk(MANY_TEXT, "find 1 10 -> bound 1 5")
        self.refused(desk, TooMany, "find 3 10")
        self.say(desk, "ahead f [] [] [] [] -> 1 5")

    def test_behind_a_program_no_paper_stands(self):
        desk = self.desk(LENGTH_TEXT, "find 1 10 -> bound 32 22", "program " + LENGTH_TEXT + " -> ok")
        self.refused(desk, NoPaper, "ahead length [1]")
        self.say(desk, "find 1 10 -> bound 32 22", "ahead length [1] -> 5 4")

    def test_behind_a_price_no_paper_stands(self):
        for row in ("price call 1", "price hold 1", "price sum 9"):
            desk = self.desk(LENGTH_TEXT, "find 1 10 -> bound 32 22", row + " -> ok")
            self.refused(desk, NoPaper, "ahead length [1]")

    def test_behind_a_find_that_found_none_no_paper_stands(self):
        desk = self.desk(LENGTH_TEXT, "find 1 10 -> bound 32 22", "find 0 10 -> none price")
        self.refused(desk, NoPaper, "ahead length [1]")
        desk = self.desk(LENGTH_TEXT, "price call 0 -> ok", "price open 0 -> ok", "price sum 0 -> ok",
                         "find 1 10 -> bound 0 22", "ahead length [1] -> 0 4", "find 0 10 -> none room")
        self.refused(desk, NoPaper, "ahead length [1]")

    def test_run_and_ways_leave_the_paper(self):
        self.desk(LENGTH_TEXT, "find 1 10 -> bound 32 22", "run length [1] -> done 5 4", "ways length [1] -> length=5",
                  "ahead length [1] -> 5 4", "ahead length [1] -> 5 4")

    def test_two_desks_beside_one_another(self):
        first, second = Desk(), Desk()
        self.say(first, "program " + LENGTH_TEXT + " -> ok", "price sum 5 -> ok", "find 1 10 -> bound 72 22")
        self.refused(second, NoProgram, "run length [1]")
        self.say(second, "program " + LENGTH_TEXT + " -> ok", "run length [1] -> done 5 4")
        self.refused(second, NoPaper, "ahead length [1]")
        self.say(second, "price call 9 -> ok", "program " + PUT_TEXT + " -> ok")
        self.say(first, "run length [1] -> done 9 4", "ahead length [1] -> 9 4")
        self.say(Desk(), "program " + LENGTH_TEXT + " -> ok", "run length [1] -> done 5 4")


class TheWholeProgram(AtADesk):
    """Whatever is handed in: no run costs or holds more than what was found tells ahead, and the parts come to it."""

    def test_many_programs(self):
        chance = random.Random(81)
        bounds = 0
        for turn in range(200):
            program = measured_program(chance)
            desk = Desk()
            table = plain_table()
            for word in WORDS:
                table[word] = chance.randint(0, 9)
                desk.say(f"price {word} {table[word]}")
            self.assertEqual(desk.say("program " + show(program)), "ok")
            size = chance.randint(0, 12)
            try:
                told = desk.say(f"find 2 {size}").split(" ")
            except (NoSize, TooMany):
                continue
            found = [find(program, table, 2, size, kind) for kind in ("price", "room")]
            if told[0] == "none":
                self.assertEqual(told[1], "price" if found[0][0] == "none" else "room")
                continue
            bounds += 1
            self.assertEqual(told, ["bound"] + [show_ratio(one[2]) for one in found])
            for name, params, gives, body in program:
                args = [any_value(chance, shape, 7) for param, shape in params]
                self.one_run(desk, program, table, name, args)
        self.assertGreater(bounds, 40)

    def one_run(self, desk, program, table, name, args):
        shapes = next([shape for param, shape in each[1]] for each in program if each[0] == name)
        row = " ".join([name] + [show_arg(shape, arg) for shape, arg in zip(shapes, args)])
        run = trace(program, name, args)
        price, room = price_of(run[3], table), room_of(run[2], table)
        self.assertEqual(desk.say("run " + row), f"{'done' if run[0] else 'cut'} {price} {room}")
        ahead = [Fraction(one) for one in desk.say("ahead " + row).split(" ")]
        self.assertLessEqual(price, ahead[0])
        self.assertLessEqual(room, ahead[1])
        ways = [part.split("=") for part in desk.say("ways " + row).split(" ")]
        self.assertEqual(sum(int(part[1]) for part in ways), price)
        self.assertEqual(whole_prices(run[2], run[3], table)[0], price)
        self.assertEqual(len({part[0] for part in ways}), len(ways))

    def test_what_is_found_is_met_by_some_run(self):
        # A list's sum costs just what is told ahead.
        desk = self.desk(LENGTH_TEXT, "find 1 10 -> bound 32 22")
        found = find(read(LENGTH_TEXT), plain_table(), 1, 10)
        for many in range(15):
            row = show_arg("list", (1,) * many)
            self.assertEqual(desk.say(f"run length {row}"), "done " + desk.say(f"ahead length {row}"))
            self.assertEqual(value_by_hand(found[1]["length"], [many]), 2 + 3 * many)
        self.assertEqual(fraction(found[2]), 32)


if __name__ == "__main__":
    unittest.main()
