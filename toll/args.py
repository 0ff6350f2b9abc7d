"""Args and ratios as texts."""

from toll.errors import NoValue
from toll.texts import is_number

MOST_SIZE = 40


def read_arg(shape, text):
    if not isinstance(text, str):
        raise NoValue("this is no text")
    if shape == "num":
        return read_num(text)
    if shape == "list":
        return read_list(text)
    return read_tree(text)


def read_num(text):
    if not is_number(text):
        raise NoValue("a number is due")
    return int(text)


def read_list(text):
    if text == "[]":
        return ()
    if not text.startswith("[") or not text.endswith("]"):
        raise NoValue("a list is due")
    numbers = text[1:-1].split(",")
    if len(numbers) > MOST_SIZE:
        raise NoValue("a list has more than forty things")
    return tuple([read_num(number) for number in numbers])


def read_tree(text):
    # Ahead of all else: how deep the reading goes hangs on it.
    if text.count("(") > MOST_SIZE:
        raise NoValue("a tree has more than forty nodes")
    found = tree_at(text, 0)
    if found[1] != len(text):
        raise NoValue("something stands behind a tree")
    return found[0]


# The tree that begins at a place, and the place behind it.
def tree_at(text, place):
    if text.startswith(".", place):
        return (None, place + 1)
    left = tree_at(text, behind_sign(text, place, "("))
    begin = behind_sign(text, left[1], ",")
    end = text.find(",", begin)
    if end < 0:
        raise NoValue("a tree is due")
    number = read_num(text[begin:end])
    right = tree_at(text, end + 1)
    return ((left[0], number, right[0]), behind_sign(text, right[1], ")"))


def behind_sign(text, place, sign):
    if not text.startswith(sign, place):
        raise NoValue("a tree is due")
    return place + 1


def show_arg(shape, value):
    if shape == "num":
        return str(value)
    if shape == "list":
        inner = ",".join([str(number) for number in value])
        return f"[{inner}]"
    return show_tree(value)


def show_tree(tree):
    if tree is None:
        return "."
    left = show_tree(tree[0])
    number = tree[1]
    right = show_tree(tree[2])
    return f"({left},{number},{right})"


def show_ratio(one):
    top = one[0]
    bottom = one[1]
    if bottom == 1:
        return str(top)
    return f"{top}/{bottom}"
