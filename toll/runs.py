"""Runs of programs, step by step."""

from toll.errors import NoValue
from toll.programs import function_of
from toll.values import fits, size_of

MOST_CALLS = 20
MOST_SIZE = 100


def trace(program, name, args, most=1000):
    check_args(function_of(program, name), args)
    run = Run(program, most)
    run.enter(name, tuple(args))
    run.go()
    return run.told()


def check_args(function, args):
    shapes = [shape for param, shape in function[1]]
    if len(args) != len(shapes):
        raise NoValue("there are not as many args as params")
    if not all([fits(shape, arg) for shape, arg in zip(shapes, args)]):
        raise NoValue("an arg is not of the shape of its param")


# What is still to do is kept as a list of tasks, the next one last: a run may go deeper than a function of Python
# should call itself.
class Run:
    def __init__(self, program, most):
        self.functions = dict([(function[0], function) for function in program])
        self.most = most
        self.calls = []
        self.steps = []
        # For each call in progress its number, and what stands by its names.
        self.frames = []
        self.tasks = []
        # What expressions came to and nothing has taken yet.
        self.ready = []
        self.is_cut = False

    def told(self):
        if self.is_cut:
            return (False, None, self.calls, self.steps)
        return (True, self.ready[0], self.calls, self.steps)

    def go(self):
        while self.tasks and not self.is_cut:
            task = self.tasks.pop()
            if task[0] == "body":
                self.begin_body(task[1])
            elif task[0] == "value":
                self.begin_value(task[1])
            elif task[0] == "apply":
                self.apply(task[1])
            elif task[0] == "bring":
                self.bring(task[1])
            elif task[0] == "choose":
                self.choose(task[1])
            else:
                self.leave()

    # Whether the step was made: else the run is cut ahead of it.
    def step(self, number, kind):
        if len(self.steps) >= self.most:
            self.is_cut = True
            return False
        self.steps.append((number, kind))
        return True

    def own_step(self, kind):
        return self.step(self.frames[-1][0], kind)

    def standing(self, name):
        return self.frames[-1][1][name]

    # The names of a function are unlike along each way through it, so one dict serves a call from begin to end.
    def stand(self, names, things):
        standing = self.frames[-1][1]
        standing.update(dict(zip(names, things)))

    def taken(self, many):
        parts = self.ready[-many:]
        self.ready = self.ready[:-many]
        return tuple(parts)

    # First the parts, from left to right, then the task.
    def behind(self, parts, task):
        self.tasks.append(task)
        self.tasks.extend([("value", part) for part in reversed(parts)])

    def begin_body(self, body):
        kind = body[0]
        if kind == "give":
            self.tasks.append(("value", body[1]))
        elif kind == "let":
            self.behind(body[2:3], ("bring", body))
        elif kind == "less":
            self.behind(body[1:3], ("choose", body))
        elif self.own_step("open"):
            self.follow(body, self.standing(body[1]))

    def follow(self, body, thing):
        if thing is None or thing == ():
            self.tasks.append(("body", body[2]))
            return
        parts = (thing[0], thing[1:]) if body[0] == "list" else thing
        self.stand(body[3:-1], parts)
        self.tasks.append(("body", body[-1]))

    def bring(self, body):
        if self.own_step("let"):
            self.stand(body[1:2], self.taken(1))
            self.tasks.append(("body", body[3]))

    def choose(self, body):
        if self.own_step("less"):
            compared = self.taken(2)
            self.tasks.append(("body", body[3] if compared[0] < compared[1] else body[4]))

    def begin_value(self, expression):
        kind = expression[0]
        if kind == "num":
            self.ready.append(expression[1])
        elif kind == "var":
            self.ready.append(self.standing(expression[1]))
        elif kind == "nil":
            self.ready.append(())
        elif kind == "leaf":
            self.ready.append(None)
        elif kind == "call":
            self.behind(expression[2], ("apply", expression))
        else:
            self.behind(expression[1:], ("apply", expression))

    def apply(self, expression):
        kind = expression[0]
        if kind == "call":
            self.enter(expression[1], self.taken(len(expression[2])))
        elif kind == "cons":
            parts = self.taken(2)
            self.make("list", (parts[0],) + parts[1])
        elif kind == "node":
            self.make("tree", self.taken(3))
        elif self.own_step("sum"):
            parts = self.taken(2)
            self.ready.append(parts[0] + parts[1] if kind == "add" else parts[0] - parts[1])

    def make(self, shape, thing):
        if size_of(shape, thing) > MOST_SIZE:
            self.is_cut = True
        elif self.own_step("make"):
            self.ready.append(thing)

    def enter(self, name, args):
        number = len(self.calls)
        if len(self.frames) >= MOST_CALLS:
            self.is_cut = True
        elif self.step(number, "call"):
            up = self.frames[-1][0] if self.frames else None
            function = self.functions[name]
            self.calls.append((name, args, up, False, None))
            self.frames.append((number, dict(zip([param for param, shape in function[1]], args))))
            self.tasks.append(("leave",))
            self.tasks.append(("body", function[3]))

    def leave(self):
        frame = self.frames.pop()
        self.calls[frame[0]] = self.calls[frame[0]][:3] + (True, self.ready[-1])
