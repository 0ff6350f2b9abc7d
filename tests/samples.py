"""Programs that several tests use, as texts and as the tuples that they are read to."""

NUM = ("num", (0, 0))

LENGTH_TEXT = (
    "(fn length ((xs list)) (num 0 0)"
    " (list xs (give 0) (h t) (give (add 1 (call length t)))))"
)
LENGTH = (
    ("length", (("xs", "list"),), NUM,
     ("list", "xs", ("give", ("num", 0)), "h", "t",
      ("give", ("add", ("num", 1), ("call", "length", (("var", "t"),)))))),
)

JOIN_TEXT = (
    "(fn join ((xs list) (ys list)) (list 0 1 1)"
    " (list xs (give ys) (h t) (give (cons h (call join t ys)))))"
)
JOIN = (
    ("join", (("xs", "list"), ("ys", "list")), ("list", (0, 1, 1)),
     ("list", "xs", ("give", ("var", "ys")), "h", "t",
      ("give", ("cons", ("var", "h"), ("call", "join", (("var", "t"), ("var", "ys"))))))),
)

FLAT_TEXT = (
    "(fn flat ((t tree)) (list 0 1)"
    " (tree t (give nil) (l v r)"
    " (let a (call flat l) (give (call join a (cons v (call flat r)))))))"
    " " + JOIN_TEXT
)
FLAT = (
    ("flat", (("t", "tree"),), ("list", (0, 1)),
     ("tree", "t", ("give", ("nil",)), "l", "v", "r",
      ("let", "a", ("call", "flat", (("var", "l"),)),
       ("give", ("call", "join",
                 (("var", "a"), ("cons", ("var", "v"), ("call", "flat", (("var", "r"),))))))))),
) + JOIN

PUT_TEXT = (
    "(fn put ((n num) (t tree)) (tree 1 0 1)"
    " (tree t (give (node leaf n leaf)) (l v r)"
    " (less n v (give (node (call put n l) v r)) (give (node l v (call put n r))))))"
)
PUT = (
    ("put", (("n", "num"), ("t", "tree")), ("tree", (1, 0, 1)),
     ("tree", "t", ("give", ("node", ("leaf",), ("var", "n"), ("leaf",))), "l", "v", "r",
      ("less", ("var", "n"), ("var", "v"),
       ("give", ("node", ("call", "put", (("var", "n"), ("var", "l"))), ("var", "v"), ("var", "r"))),
       ("give", ("node", ("var", "l"), ("var", "v"), ("call", "put", (("var", "n"), ("var", "r")))))))),
)

EVEN_TEXT = (
    "(fn even ((n num)) (num 0 0) (less 0 n (give (call odd (sub n 1))) (give 1)))"
    " (fn odd ((n num)) (num 0 0) (less 0 n (give (call even (sub n 1))) (give -1)))"
)
EVEN = (
    ("even", (("n", "num"),), NUM,
     ("less", ("num", 0), ("var", "n"),
      ("give", ("call", "odd", (("sub", ("var", "n"), ("num", 1)),))), ("give", ("num", 1)))),
    ("odd", (("n", "num"),), NUM,
     ("less", ("num", 0), ("var", "n"),
      ("give", ("call", "even", (("sub", ("var", "n"), ("num", 1)),))), ("give", ("num", -1)))),
)

SAMPLES = (
    (LENGTH_TEXT, LENGTH),
    (JOIN_TEXT, JOIN),
    (FLAT_TEXT, FLAT),
    (PUT_TEXT, PUT),
    (EVEN_TEXT, EVEN),
)

ZERO = ("give", ("num", 0))


def function(name="f", params=(("n", "num"), ("xs", "list"), ("t", "tree")), gives=None, body=ZERO):
    if gives is None:
        gives = ("num", (0,) * (len(params) + 1))
    return (name, params, gives, body)


def one(**parts):
    return (function(**parts),)


def giving(expression, shape="num"):
    """One function of a num n, a list xs and a tree t that gives an expression of some shape."""
    return one(gives=(shape, (0, 0, 0, 0)), body=("give", expression))


def any_expression(chance, shape, names, program, deep):
    choices = [("var", name) for name in sorted(names) if names[name] == shape]
    choices.append({"num": ("num", chance.randint(-20, 20)), "list": ("nil",), "tree": ("leaf",)}[shape])
    if deep == 0 or chance.random() < 0.4:
        return chance.choice(choices)

    def part(due):
        return any_expression(chance, due, names, program, deep - 1)

    callable_here = [head for head in program if head[2][0] == shape]
    if callable_here and chance.random() < 0.4:
        name, params, gives = chance.choice(callable_here)
        return ("call", name, tuple(part(due) for param, due in params))
    if shape == "num":
        return (chance.choice(("add", "sub")), part("num"), part("num"))
    if shape == "list":
        return ("cons", part("num"), part("list"))
    return ("node", part("tree"), part("num"), part("tree"))


def any_body(chance, due, names, program, deep):
    def inner(brought):
        return any_body(chance, due, {**names, **brought}, program, deep - 1)

    def expression(shape):
        return any_expression(chance, shape, names, program, 2)

    kind = chance.choice(("give", "let", "less", "list", "tree")) if deep else "give"
    fresh = ["abcdefgh"[deep] + letter for letter in "abc"]
    opened = [name for name in sorted(names) if names[name] == kind]
    if kind == "let":
        shape = chance.choice(("num", "list", "tree"))
        return ("let", fresh[0], expression(shape), inner({fresh[0]: shape}))
    if kind == "less":
        return ("less", expression("num"), expression("num"), inner({}), inner({}))
    if kind == "list" and opened:
        brought = {fresh[0]: "num", fresh[1]: "list"}
        return ("list", chance.choice(opened), inner({}), fresh[0], fresh[1], inner(brought))
    if kind == "tree" and opened:
        brought = {fresh[0]: "tree", fresh[1]: "num", fresh[2]: "tree"}
        return ("tree", chance.choice(opened), inner({}), *fresh, inner(brought))
    return ("give", expression(due))


def any_head(chance, name):
    shapes = ("num", "list", "tree")
    params = tuple((letter, chance.choice(shapes)) for letter in "pqrs"[:chance.randint(1, 4)])
    shape = chance.choice(shapes)
    size = [chance.randint(0, 30)] + [0 if due == "num" else chance.randint(0, 30) for param, due in params]
    return (name, params, (shape, tuple(number if shape != "num" else 0 for number in size)))


def any_program(chance):
    """A right program, one of many."""
    heads = [any_head(chance, "f" + letter) for letter in "abcdefgh"[:chance.randint(1, 8)]]
    return tuple(
        (name, params, gives, any_body(chance, gives[0], dict(params), heads, 3)) for name, params, gives in heads)


def any_tree(chance, many):
    if many == 0:
        return None
    left = chance.randint(0, many - 1)
    return (any_tree(chance, left), chance.randint(-9, 9), any_tree(chance, many - 1 - left))


def any_value(chance, shape, most=6):
    if shape == "num":
        return chance.randint(-9, 9)
    many = chance.randint(0, most)
    return tuple(chance.randint(-9, 9) for number in range(many)) if shape == "list" else any_tree(chance, many)


# Programs of which many have sums: each function may call those behind it, with anything, and itself, with what came of
# opening its first param.


def measured_program(chance):
    heads = []
    for letter in "fghk"[:chance.randint(1, 4)]:
        params = (("p", chance.choice(("list", "tree"))),)
        params += tuple((name, chance.choice(("num", "list", "tree"))) for name in "qr"[:chance.randint(0, 2)])
        shape = chance.choice(("num", "num", "list", "tree"))
        size = [chance.randint(0, 2)] + [0 if due == "num" else chance.randint(0, 2) for name, due in params]
        heads.append((letter, params, (shape, tuple(number if shape != "num" else 0 for number in size))))
    return tuple(
        (name, params, gives, measured_body(chance, heads, place)) for place, (name, params, gives) in enumerate(heads))


def measured_body(chance, heads, place):
    name, params, gives = heads[place]
    names = dict(params)
    later = heads[place + 1:]

    def expression(due, stand, deep=2):
        return any_expression(chance, due, stand, later, deep)

    def again(stand, part):
        args = (("var", part),) + tuple(
            ("var", param) if chance.random() < 0.7 else expression(due, stand, 1) for param, due in params[1:])
        return ("call", name, args)

    def ended(stand):
        if chance.random() < 0.3:
            return ("less", expression("num", stand, 1), expression("num", stand, 1),
                    ("give", expression(gives[0], stand)), ("give", expression(gives[0], stand)))
        return ("give", expression(gives[0], stand))

    def goes_on(stand, parts):
        brought = "xy"[:chance.randint(1, len(parts))]
        body = ended({**stand, **{each: gives[0] for each in brought}})
        for each, part in zip(brought, parts):
            body = ("let", each, again(stand, part), body)
        return body

    if params[0][1] == "list":
        stand = {**names, "h": "num", "t": "list"}
        return ("list", "p", ended(names), "h", "t", goes_on(stand, ["t"]))
    stand = {**names, "a": "tree", "b": "num", "c": "tree"}
    return ("tree", "p", ended(names), "a", "b", "c", goes_on(stand, chance.sample(["a", "c"], 2)))
