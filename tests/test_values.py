import unittest

from toll.values import fits, size_of

GREAT = 10 ** 60 - 1

NUMS = (0, 1, -1, 7, -40, GREAT, -GREAT)
LISTS = ((), (0,), (1, 2, -3), (5, 5, 5), (GREAT, -GREAT), tuple(range(100)), (7,) * 2000)
LEAF = None
ONE = (None, 4, None)
TREES = (LEAF, ONE, (ONE, -2, None), (None, 0, ONE), (ONE, GREAT, (None, 1, ONE)))

# What is of no shape, whatever the shape.
NOTHINGS = (
    True, False, "", "1", "num", "()", [], [1], [None, 1, None], {}, {1: 2}, {"a": 1}, 1.0, 0.5, b"", b"1",
    object(), set(), frozenset(), range(3), int, len, ("1",), (True,), (False,), (1, True), (1, None), (1, "2"),
    (1, 2.0), (1, (2,)), (1, [2]), ((),), ((1,), (2,)), (None,), (None, None), (None, 1), (1, None, 1),
    (None, None, None), (None, "1", None), (None, True, None), (None, False, None), (None, 1.0, None),
    (None, (1,), None), ((), 1, ()), ((), 1, None), (None, 1, ()), (None, 1, None, None), (None, 1, None, 1),
    (1, 2, None), (None, 2, 3), ([], 1, None), (None, 1, []), (None, 1, {}), ("leaf", 1, None), (None, 1, ""),
    (False, 1, None), (None, 1, False), (None, 1, 0), (0, 1, None), ([None, 1, None], 2, None),
)


def leaning(many, side):
    """A tree of so many nodes, each one left or right of the one above it."""
    tree = None
    for number in range(many):
        tree = (tree, number, None) if side == "left" else (None, number, tree)
    return tree


def full(deep):
    if deep == 0:
        return None
    return (full(deep - 1), deep, full(deep - 1))


def around(thing, deep):
    """A tree with the thing deep within it, by turns to the left and to the right."""
    for number in range(deep):
        thing = (thing, number, None) if number % 2 else (None, number, thing)
    return thing


class Fits(unittest.TestCase):
    def hold(self, shape, things, due):
        for thing in things:
            kept = repr(thing)
            with self.subTest(shape=shape, thing=thing):
                self.assertIs(fits(shape, thing), due)
                self.assertIs(fits(shape, thing), due, "asked again")
                self.assertEqual(repr(thing), kept)

    def test_each_shape_has_its_own_values(self):
        self.hold("num", NUMS, True)
        self.hold("list", LISTS, True)
        self.hold("tree", TREES, True)

    def test_no_shape_has_the_values_of_another_one(self):
        self.hold("num", LISTS + TREES, False)
        self.hold("list", NUMS + TREES, False)
        self.hold("tree", NUMS + LISTS, False)

    def test_three_whole_numbers_are_a_list_and_no_tree(self):
        self.hold("list", ((1, 2, 3),), True)
        self.hold("tree", ((1, 2, 3),), False)

    def test_the_leaf_is_a_tree_alone_and_the_empty_list_a_list_alone(self):
        self.assertEqual([fits(shape, None) for shape in ("num", "list", "tree")], [False, False, True])
        self.assertEqual([fits(shape, ()) for shape in ("num", "list", "tree")], [False, True, False])

    def test_other_things_are_of_no_shape(self):
        for shape in ("num", "list", "tree"):
            self.hold(shape, NOTHINGS, False)

    def test_other_things_within_a_list(self):
        for place in (0, 1, 50, 99):
            for thing in (True, False, None, "1", (), (1,), [], {}, 1.0, object()):
                numbers = list(range(100))
                numbers[place] = thing
                self.hold("list", (tuple(numbers),), False)

    def test_a_list_of_python_is_no_list(self):
        self.hold("list", ([], [1, 2], list(range(100))), False)

    def test_other_things_deep_within_a_tree(self):
        for deep in (1, 2, 5, 30, 99):
            self.hold("tree", (around(None, deep), around(ONE, deep)), True)
            for thing in NOTHINGS + NUMS + LISTS:
                self.assertIs(fits("tree", around(thing, deep)), False, (deep, thing))

    def test_great_trees(self):
        for side in ("left", "right"):
            self.hold("tree", (leaning(99, side), leaning(100, side)), True)
            self.assertIs(fits("list", leaning(100, side)), False)
        self.hold("tree", (full(7),), True)
        self.assertIs(fits("tree", full(12)), True)


class Sizes(unittest.TestCase):
    def test_a_num_has_none(self):
        for number in NUMS:
            self.assertEqual(size_of("num", number), 0)

    def test_a_list_has_the_number_of_its_things(self):
        for value, size in (((), 0), ((9,), 1), ((0, 0), 2), ((3, 1, 2), 3), (tuple(range(100)), 100),
                            ((1,) * 101, 101)):
            self.assertEqual(size_of("list", value), size)

    def test_a_tree_has_the_number_of_its_nodes(self):
        for value, size in ((None, 0), (ONE, 1), ((ONE, 0, None), 2), ((None, 0, ONE), 2), ((ONE, 5, ONE), 3),
                            ((ONE, 1, (None, 1, ONE)), 4), (full(4), 15), (full(7), 127)):
            self.assertEqual(size_of("tree", value), size)

    def test_trees_to_one_side(self):
        for side in ("left", "right"):
            for many in (0, 1, 2, 40, 99, 100):
                self.assertEqual(size_of("tree", leaning(many, side)), many)

    def test_a_part_that_stands_twice_counts_twice(self):
        part = (ONE, 1, ONE)
        self.assertEqual(size_of("tree", (part, 2, part)), 7)

    def test_whole_numbers_are_told(self):
        for shape, value in (("num", 3), ("list", (1,)), ("tree", ONE)):
            self.assertIs(size_of(shape, value).__class__, int)


if __name__ == "__main__":
    unittest.main()
