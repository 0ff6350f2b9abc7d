"""A desk: rows are told to it one at a time, and it answers each with a text."""

from toll.args import read_arg, show_ratio
from toll.errors import NoPaper, NoProgram, NoRow, NoTable, NoValue
from toll.finds import find
from toll.papers import bound_of
from toll.programs import function_of
from toll.runs import trace
from toll.tables import WORDS, plain_table, price_of
from toll.texts import is_number, read
from toll.ways import by_way, room_of

MOST_POWER = 3
MOST_SIZE = 1000


def is_find(words):
    return len(words) == 3 and is_number_to(words[1], MOST_POWER) and is_number_to(words[2], MOST_SIZE)


def is_number_to(word, most):
    return is_number(word) and 0 <= int(word) <= most


def show_way(way, price):
    names = "/".join(way)
    return f"{names}={price}"


class Desk:
    def __init__(self):
        self.program = None
        self.table = plain_table()
        self.paper = None

    def say(self, row):
        if not isinstance(row, str):
            raise NoRow("this is no text")
        words = row.split(" ")
        many = len(words)
        if words[0] == "program" and many > 1:
            return self.say_program(row.partition(" ")[2])
        if words[0] == "price" and many == 3 and is_number(words[2]):
            return self.say_price(words[1], int(words[2]))
        if words[0] == "find" and is_find(words):
            return self.say_find(int(words[1]), int(words[2]))
        if words[0] == "run" and many > 1:
            return self.say_run(words[1], words[2:])
        if words[0] == "ahead" and many > 1:
            return self.say_ahead(words[1], words[2:])
        if words[0] == "ways" and many > 1:
            return self.say_ways(words[1], words[2:])
        raise NoRow("this is no row that a desk is told")

    def say_program(self, text):
        self.program = read(text)
        self.paper = None
        return "ok"

    def say_price(self, kind, number):
        if kind not in WORDS:
            raise NoTable(f"a table has no price of {kind!r}")
        if number < 0:
            raise NoTable("a price is a whole number from 0 on")
        self.table[kind] = number
        self.paper = None
        return "ok"

    def say_find(self, power, size):
        program = self.standing_program()
        found = []
        for kind in ("price", "room"):
            told = find(program, self.table, power, size, kind)
            if told[0] == "none":
                self.paper = None
                return f"none {kind}"
            found.append(told)
        price = found[0][1]
        room = found[1][1]
        self.paper = dict([(name, (price[name], room[name])) for name in price])
        values = [show_ratio(told[2]) for told in found]
        return " ".join(["bound"] + values)

    def standing_program(self):
        if self.program is None:
            raise NoProgram("no program stands")
        return self.program

    def args_of(self, name, words):
        params = function_of(self.standing_program(), name)[1]
        if len(words) != len(params):
            raise NoValue("there are not as many args as params")
        return [read_arg(param[1], word) for param, word in zip(params, words)]

    def run_of(self, name, words):
        args = self.args_of(name, words)
        return trace(self.program, name, args)

    def say_run(self, name, words):
        run = self.run_of(name, words)
        end = "done" if run[0] else "cut"
        price = price_of(run[3], self.table)
        room = room_of(run[2], self.table)
        return f"{end} {price} {room}"

    def say_ahead(self, name, words):
        args = self.args_of(name, words)
        if self.paper is None:
            raise NoPaper("no paper stands")
        bound = bound_of(self.program, self.paper, name, args)
        return " ".join([show_ratio(one) for one in bound])

    def say_ways(self, name, words):
        run = self.run_of(name, words)
        return " ".join([show_way(way, price) for way, price in by_way(run[2], run[3], self.table)])
