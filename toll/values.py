"""Values of the three shapes, and their sizes."""

from toll.programs import is_whole


def fits(shape, thing):
    if shape == "num":
        return is_whole(thing)
    if shape == "list":
        return isinstance(thing, tuple) and all([is_whole(number) for number in thing])
    return is_tree(thing)


# What is still to be seen is kept in a list, here and below: trees may be deeper than a function should call itself.
def is_tree(thing):
    waiting = [thing]
    while waiting:
        part = waiting.pop()
        if part is None:
            continue
        if not isinstance(part, tuple) or len(part) != 3 or not is_whole(part[1]):
            return False
        waiting.extend([part[0], part[2]])
    return True


def size_of(shape, value):
    if shape == "num":
        return 0
    if shape == "list":
        return len(value)
    return nodes_of(value)


def nodes_of(tree):
    many = 0
    waiting = [tree]
    while waiting:
        part = waiting.pop()
        if part is not None:
            many += 1
            waiting.extend([part[0], part[2]])
    return many
