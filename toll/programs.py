"""Programs as tuples, and when one is right."""

from toll.errors import NoFunction

LETTERS = "abcdefghijklmnopqrstuvwxyz"

SHAPES = ("num", "list", "tree")

# Where an expression may stand these two are values, so what they named could never be asked for.
NO_NAMES = ("nil", "leaf")

# For the expressions whose parts are expressions alone: the shapes of the parts, and their own.
FORMS = {
    "nil": ((), "list"),
    "cons": (("num", "list"), "list"),
    "leaf": ((), "tree"),
    "node": (("tree", "num", "tree"), "tree"),
    "add": (("num", "num"), "num"),
    "sub": (("num", "num"), "num"),
}

# The shapes of the names that a body brings when it opens something, by the shape that it opens.
BROUGHT = {"list": ("num", "list"), "tree": ("tree", "num", "tree")}


def is_whole(thing):
    # Python counts True and False among its ints.
    return isinstance(thing, int) and not isinstance(thing, bool)


def is_name(thing):
    if not isinstance(thing, str) or not 1 <= len(thing) <= 8 or thing in NO_NAMES:
        return False
    # Not isalpha or islower: they let the letters of other alphabets pass.
    return all([sign in LETTERS for sign in thing])


def unlike(names):
    return len(set(names)) == len(names)


def function_of(program, name):
    for function in program:
        if function[0] == name:
            return function
    raise NoFunction(f"no function has the name {name!r}")


def right(program):
    if not 1 <= len(program) <= 8:
        return False
    # The heads go first: a body is held against the heads of all functions that it calls.
    if not all([head_right(function) for function in program]):
        return False
    if not unlike([function[0] for function in program]):
        return False
    known = dict([(function[0], function) for function in program])
    return all([body_right(body, dict(params), gives[0], known) for name, params, gives, body in program])


def head_right(function):
    params = function[1]
    names = [name for name, shape in params]
    if not 1 <= len(params) <= 4 or not unlike(names):
        return False
    if not all([is_name(name) for name in [function[0]] + names]):
        return False
    return gives_right(function[2], [shape for name, shape in params])


def gives_right(gives, shapes):
    size = gives[1]
    if not all([shape in SHAPES for shape in [gives[0]] + shapes]):
        return False
    if len(size) != len(shapes) + 1 or not all([is_whole(number) and number >= 0 for number in size]):
        return False
    if gives[0] == "num":
        return not any(size)
    return all([number == 0 for number, shape in zip(size[1:], shapes) if shape == "num"])


# In what follows names is a dict from the names that stand to their shapes, known one from names to functions,
# and due the shape that the function is to give.


def body_right(body, names, due, known):
    kind = body[0]
    if kind == "give":
        return shape_of(body[1], names, known) == due
    if kind == "let":
        brought = [(body[1], shape_of(body[2], names, known))]
        return wider_right(body[3], brought, names, due, known)
    if kind == "less":
        compared = [shape_of(part, names, known) for part in body[1:3]]
        return compared == ["num", "num"] and all([body_right(part, names, due, known) for part in body[3:]])
    if kind not in BROUGHT or names.get(body[1]) != kind:
        return False
    brought = list(zip(body[3:-1], BROUGHT[kind]))
    return body_right(body[2], names, due, known) and wider_right(body[-1], brought, names, due, known)


def wider_right(body, brought, names, due, known):
    if not unlike([name for name, shape in brought]):
        return False
    if not all([is_name(name) and name not in names and shape is not None for name, shape in brought]):
        return False
    wider = dict(names)
    wider.update(dict(brought))
    return body_right(body, wider, due, known)


# None where the expression is not right.
def shape_of(expression, names, known):
    kind = expression[0]
    if kind == "num":
        return "num" if is_whole(expression[1]) else None
    if kind == "var":
        return names.get(expression[1])
    if kind == "call":
        return call_shape(expression, names, known)
    if kind not in FORMS:
        return None
    return shape_if(expression[1:], FORMS[kind][0], FORMS[kind][1], names, known)


def call_shape(call, names, known):
    if call[1] not in known:
        return None
    called = known[call[1]]
    return shape_if(call[2], [shape for name, shape in called[1]], called[2][0], names, known)


# The shape, if the parts have those that are wanted, and are as many.
def shape_if(parts, wanted, shape, names, known):
    if [shape_of(part, names, known) for part in parts] == list(wanted):
        return shape
    return None
