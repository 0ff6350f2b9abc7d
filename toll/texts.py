"""Programs told as texts: read and shown."""

from toll.errors import NoProgram, NoText
from toll.programs import SHAPES, is_name, right

FIGURES = "0123456789"

# How many things stand in a bracket of each kind, its own word among them.
BODIES = {"give": 2, "let": 4, "less": 5, "list": 5, "tree": 5}
BRACKETS = {"cons": 3, "node": 4, "add": 3, "sub": 3}

# How many names a body brings when it opens something.
BRINGS = {"list": 2, "tree": 3}


def read(text):
    if not isinstance(text, str):
        raise NoText("this is no text")
    # All of the text is read ahead of the question whether it is right: NoText goes first.
    program = tuple([read_function(part) for part in nested(words_of(text))])
    if not right(program):
        raise NoProgram("the text tells no right program")
    return program


def words_of(text):
    spread = text.replace("(", " ( ").replace(")", " ) ").replace("\n", " ")
    # Parted at blanks alone: a tab or another such sign stays in its word, which then is none.
    return [word for word in spread.split(" ") if word != ""]


# Words stay texts, and a bracket becomes the list of what stands in it.
def nested(words):
    around = [[]]
    for word in words:
        if word == "(":
            around.append([])
        elif word != ")":
            around[-1].append(word)
        elif len(around) == 1:
            raise NoText("a bracket is closed that was not begun")
        else:
            inner = around.pop()
            around[-1].append(inner)
    if len(around) > 1:
        raise NoText("a bracket is not closed")
    return around[0]


def in_bracket(part):
    if isinstance(part, str):
        raise NoText(f"a word stands where a bracket is due: {part!r}")
    return part


def bracket_of(part, many):
    if len(in_bracket(part)) != many:
        raise NoText("a bracket has a part too many or too few")
    return part


def head_of(part):
    if in_bracket(part) == [] or not isinstance(part[0], str):
        raise NoText("a bracket does not begin with a word")
    return part[0]


def read_name(part):
    if not is_name(part):
        raise NoText("a name is due")
    return part


def read_names(part, many):
    return tuple([read_name(name) for name in bracket_of(part, many)])


def read_shape(part):
    if part not in SHAPES:
        raise NoText("a shape is due")
    return part


def is_number(word):
    figures = word[1:] if word.startswith("-") else word
    if not 1 <= len(figures) <= 60 or not all([sign in FIGURES for sign in figures]):
        return False
    return word == "0" or not figures.startswith("0")


def read_number(part):
    if not isinstance(part, str) or not is_number(part):
        raise NoText("a number is due")
    return int(part)


def read_function(part):
    if head_of(part) != "fn":
        raise NoText("a function is due")
    bracket_of(part, 5)
    params = tuple([read_param(param) for param in in_bracket(part[2])])
    return (read_name(part[1]), params, read_gives(part[3]), read_body(part[4]))


def read_param(part):
    bracket_of(part, 2)
    return (read_name(part[0]), read_shape(part[1]))


def read_gives(part):
    shape = read_shape(head_of(part))
    return (shape, tuple([read_number(number) for number in part[1:]]))


def read_body(part):
    kind = head_of(part)
    if BODIES.get(kind) != len(part):
        raise NoText("a body is due")
    if kind == "give":
        return (kind, read_expression(part[1]))
    if kind == "let":
        return (kind, read_name(part[1]), read_expression(part[2]), read_body(part[3]))
    if kind == "less":
        compared = (read_expression(part[1]), read_expression(part[2]))
        return (kind,) + compared + (read_body(part[3]), read_body(part[4]))
    ahead = (kind, read_name(part[1]), read_body(part[2]))
    return ahead + read_names(part[3], BRINGS[kind]) + (read_body(part[4]),)


def read_expression(part):
    if isinstance(part, str):
        return read_word(part)
    kind = head_of(part)
    if kind == "call" and len(part) > 1:
        return (kind, read_name(part[1]), read_all(part[2:]))
    if BRACKETS.get(kind) != len(part):
        raise NoText("an expression is due")
    return (kind,) + read_all(part[1:])


def read_all(parts):
    return tuple([read_expression(part) for part in parts])


def read_word(word):
    if word in ("nil", "leaf"):
        return (word,)
    if is_name(word):
        return ("var", word)
    return ("num", read_number(word))


def show(program):
    return " ".join([show_function(function) for function in program])


def bracketed(words):
    inner = " ".join(words)
    return f"({inner})"


def show_function(function):
    gives = function[2]
    params = bracketed([bracketed(param) for param in function[1]])
    size = [str(number) for number in gives[1]]
    return bracketed(["fn", function[0], params, bracketed([gives[0]] + size), show_body(function[3])])


def show_body(body):
    kind = body[0]
    if kind == "give":
        return bracketed([kind, show_expression(body[1])])
    if kind == "let":
        return bracketed([kind, body[1], show_expression(body[2]), show_body(body[3])])
    if kind == "less":
        compared = [show_expression(part) for part in body[1:3]]
        return bracketed([kind] + compared + [show_body(part) for part in body[3:]])
    return bracketed([kind, body[1], show_body(body[2]), bracketed(body[3:-1]), show_body(body[-1])])


def show_expression(expression):
    kind = expression[0]
    if kind == "num":
        return str(expression[1])
    if kind == "var":
        return expression[1]
    if kind in ("nil", "leaf"):
        return kind
    if kind == "call":
        return bracketed([kind, expression[1]] + show_all(expression[2]))
    return bracketed([kind] + show_all(expression[1:]))


def show_all(expressions):
    return [show_expression(expression) for expression in expressions]
