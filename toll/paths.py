"""The paths of a function, with sizes as lines over the sizes of its params."""

from toll.programs import function_of
from toll.sums import line_laid
from toll.tables import KINDS

# The kind of step that an expression makes itself.
MAKES = {"cons": "make", "node": "make", "add": "sum", "sub": "sum"}


def paths_of(program, name):
    function = function_of(program, name)
    told_sizes = dict([(each[0], each[2][1]) for each in program])
    return ends_of(function[3], first_path(function[1]), told_sizes)


def first_path(params):
    path = Path()
    path.many = len(params)
    for place, param in enumerate(params):
        if param[1] == "num":
            path.bring(param[0], path.noughts())
        else:
            path.bring_own(param[0], place)
    path.shape = [path.lines[name] for name, shape in params]
    return path


# The paths from here on, each told to its end; the path that led here is changed on the way.
def ends_of(body, path, told_sizes):
    kind = body[0]
    if kind == "give":
        return [path.told(line_of(body[1], path, told_sizes))]
    if kind == "let":
        path.bring(body[1], line_of(body[2], path, told_sizes))
        path.step("let")
        return ends_of(body[3], path, told_sizes)
    if kind == "less":
        for part in body[1:3]:
            line_of(part, path, told_sizes)
        path.step("less")
        other = path.twin()
        return ends_of(body[3], path, told_sizes) + ends_of(body[4], other, told_sizes)
    path.step("open")
    other = path.twin()
    path.found_empty(body[1])
    other.found_full(kind, body[1], body[3:-1])
    return ends_of(body[2], path, told_sizes) + ends_of(body[-1], other, told_sizes)


# The size of an expression; its steps and calls are counted to the path.
def line_of(expression, path, told_sizes):
    kind = expression[0]
    if kind == "var":
        return path.lines[expression[1]]
    if kind == "call":
        lines = tuple([line_of(part, path, told_sizes) for part in expression[2]])
        path.calls.append((expression[1], lines))
        return line_laid(told_sizes[expression[1]], lines, path.many)
    if kind not in MAKES:
        return path.noughts()
    lines = [line_of(part, path, told_sizes) for part in expression[1:]]
    path.step(MAKES[kind])
    # A part that is a num has the line of noughts, so all parts may be counted.
    together = [1 if MAKES[kind] == "make" else 0] + [1 for line in lines]
    return line_laid(together, lines, path.many)


class Path:
    def __init__(self):
        self.many = 0
        self.shape = []
        self.lines = {}
        # The size that each own list or tree has, by its name.
        self.own = {}
        self.steps = dict([(kind, 1 if kind == "call" else 0) for kind in KINDS])
        self.calls = []

    def twin(self):
        other = Path()
        other.many = self.many
        other.shape = list(self.shape)
        other.lines = dict(self.lines)
        other.own = dict(self.own)
        other.steps = dict(self.steps)
        other.calls = list(self.calls)
        return other

    def told(self, size):
        return (tuple(self.shape), self.many, self.steps, self.calls, size)

    def step(self, kind):
        self.steps[kind] += 1

    def noughts(self):
        return (0,) * (self.many + 1)

    def bring(self, name, line):
        self.lines[name] = line

    def bring_own(self, name, place):
        self.own[name] = place
        self.lines[name] = tuple([1 if other == place + 1 else 0 for other in range(self.many + 1)])

    def found_empty(self, name):
        place = self.own.pop(name, None)
        if place is not None:
            self.change(lambda line: line[:place + 1] + (0,) + line[place + 2:])

    def found_full(self, kind, name, brought):
        place = self.own.pop(name, None)
        if place is None:
            self.open_other(kind, self.lines[name], brought)
        elif kind == "list":
            self.open_list(place, brought)
        else:
            self.open_tree(place, brought)

    def open_other(self, kind, line, brought):
        for number, name in enumerate(brought):
            is_number = number == (0 if kind == "list" else 1)
            self.bring(name, self.noughts() if is_number else line)

    def open_list(self, place, brought):
        self.change(lambda line: (line[0] + line[place + 1],) + line[1:])
        self.bring(brought[0], self.noughts())
        self.bring_own(brought[1], place)

    def open_tree(self, place, brought):
        self.change(lambda line: (line[0] + line[place + 1],) + line[1:] + (line[place + 1],))
        self.many += 1
        self.bring_own(brought[0], place)
        self.bring(brought[1], self.noughts())
        self.bring_own(brought[2], self.many - 1)

    # What is known of a size now holds everywhere, for what stood ahead too.
    def change(self, changed):
        self.shape = [changed(line) for line in self.shape]
        self.lines = dict([(name, changed(line)) for name, line in self.lines.items()])
        self.calls = [(name, tuple([changed(line) for line in lines])) for name, lines in self.calls]
