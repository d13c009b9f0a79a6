"""Trees: points [31] to [38]."""

import random
import unittest

from helpers import (
    checked_items, commit, counted_uses, node_at, state_of, store_with, tree_at, uses_of)
from laminae.errors import BadImage, NoSpace
from laminae.trees import (
    empty_tree, height, items_between, last_item, look_up, next_item, node_pointers, put, release, release_pointer, take)

# What leads to the blocks that are in use before a store with 9 as its first free block is changed.
HELD = [((number, 1), False) for number in range(5, 9)]


def key_of(number):
    """A key."""
    return (number, 1, 0)


def value_of(number):
    """A value."""
    return (number, number + 1, 0, 10 ** 30)


def tree_of(store, numbers, root=None):
    """The root of a tree after these numbers were put, in this order."""
    root = root or empty_tree(store)
    for number in numbers:
        root = put(store, root, key_of(number), value_of(number))
    return root


def without(store, root, numbers):
    """The root of the tree after these numbers were taken away, in this order."""
    for number in numbers:
        root, _ = take(store, root, key_of(number))
    return root


def shape_of(store, root):
    """A tree as nested tuples, its keys as numbers."""
    return numbered(tree_at(store, root))


def numbered(tree):
    """The tree with numbers instead of keys."""
    number, content = tree
    return number, [part[0] if len(part) == 3 else numbered(part) for part in content]


def leaf_at(store, number, keys):
    """Make a leaf in the least free block, which has this number, and return its inner item."""
    words = [1, len(keys), number, store.generation()]
    for key in keys:
        words += [*key_of(key), *value_of(key)]
    pointer = store.make(words + [0] * (32 - len(words)))
    assert pointer[0] == number
    return key_of(keys[0]), pointer


def inner_at(store, number, children):
    """Make an inner node in the least free block, which has this number, and return its inner item."""
    words = [2, len(children), number, store.generation()]
    for key, pointer in children:
        words += [*key, *pointer]
    pointer = store.make(words + [0] * (32 - len(words)))
    assert pointer[0] == number
    return children[0][0], pointer


class TreeCase(unittest.TestCase):

    def assert_tree(self, store, root, expected):
        """Check the form of a tree, its items, and all functions that read it."""
        items, levels = checked_items(store, root)
        self.assertEqual(items, sorted(expected.items()))
        self.assertEqual(height(store, root), levels)
        self.assertEqual(len(node_pointers(store, root)), len(set(node_pointers(store, root))))
        for key in expected:
            self.assertEqual(look_up(store, root, key), expected[key])

    def assert_uses(self, store, given):
        """Check the uses of all blocks; these pointers lead into the disk."""
        self.assertEqual(uses_of(store), counted_uses(store, given))


class ExampleTest(TreeCase):

    def test_the_example_of_the_interface(self):
        store = store_with(9)
        root = empty_tree(store)
        self.assertEqual(root, (9, 4))
        self.assertEqual(store.read(root), [1, 0, 9, 4] + [0] * 28)
        for number in range(1, 5):
            self.assertEqual(put(store, root, key_of(number), value_of(number)), (9, 4))
        self.assertEqual(store.new_blocks(), [9])
        root = put(store, root, key_of(5), value_of(5))
        self.assertEqual(root, (11, 4))
        self.assertEqual(shape_of(store, root), (11, [(9, [1, 2, 3]), (10, [4, 5])]))
        self.assertEqual(take(store, root, key_of(5)), ((9, 4), value_of(5)))
        self.assertEqual(shape_of(store, (9, 4)), (9, [1, 2, 3, 4]))
        self.assertEqual(store.new_blocks(), [9])
        self.assertTrue(store.space.is_free(10) and store.space.is_free(11))

    def test_an_empty_tree(self):
        store = store_with(9)
        root = empty_tree(store)
        self.assert_tree(store, root, {})
        self.assertIs(look_up(store, root, key_of(1)), None)
        self.assertEqual(take(store, root, key_of(1)), (root, None))
        self.assertIs(next_item(store, root, (0, 0, 0)), None)
        self.assertIs(last_item(store, root), None)
        self.assertEqual(items_between(store, root, (0, 0, 0), (9, 9, 9)), [])
        self.assertEqual((height(store, root), node_pointers(store, root)), (1, [root]))

    def test_a_tree_that_becomes_empty_again(self):
        store = store_with(9)
        root = tree_of(store, range(1, 6))
        root = without(store, root, range(1, 6))
        self.assertEqual(root, (9, 4))
        self.assert_tree(store, root, {})
        self.assertEqual(store.new_blocks(), [9])
        root = tree_of(store, [1], root)
        self.assert_tree(store, root, {key_of(1): value_of(1)})

    def test_an_empty_tree_needs_a_block(self):
        store = store_with(95, reserve=1)
        with self.assertRaises(NoSpace):
            empty_tree(store)
        store.use_reserve(0)
        self.assertEqual(empty_tree(store), (95, 4))


class PutTest(TreeCase):

    def test_values_are_replaced_in_their_place(self):
        store = store_with(9)
        root = tree_of(store, range(1, 10))
        before = shape_of(store, root)
        for number in range(1, 10):
            self.assertEqual(put(store, root, key_of(number), (0, 0, number, 0)), root)
            self.assertEqual(look_up(store, root, key_of(number)), (0, 0, number, 0))
        self.assertEqual(shape_of(store, root), before)

    def test_the_blocks_of_splits(self):
        store = store_with(9)
        root = tree_of(store, range(1, 15))
        leaves = [(9, [1, 2, 3]), (10, [4, 5, 6]), (12, [7, 8, 9]), (13, [10, 11, 12]), (14, [13, 14])]
        self.assertEqual(shape_of(store, root), (11, leaves))
        root = tree_of(store, range(15, 18), root)
        self.assertEqual(root, (17, 4))
        leaves[4:] = [(14, [13, 14, 15]), (15, [16, 17])]
        self.assertEqual(shape_of(store, root), (17, [(11, leaves[:3]), (16, leaves[3:])]))
        self.assertEqual(store.new_blocks(), list(range(9, 18)))

    def test_a_split_between_other_nodes(self):
        store = store_with(9)
        root = tree_of(store, [10, 20, 30, 40, 50, 15, 17])
        self.assertEqual(shape_of(store, root), (11, [(9, [10, 15, 17]), (12, [20, 30]), (10, [40, 50])]))
        self.assertEqual([key for key, _ in node_at(store, root)[1]], [key_of(10), key_of(20), key_of(40)])

    def test_the_way_goes_to_the_last_child_that_is_not_greater(self):
        store = store_with(9)
        root = tree_of(store, [10, 20, 30, 40, 50, 39])
        self.assertEqual(shape_of(store, root), (11, [(9, [10, 20, 30, 39]), (10, [40, 50])]))
        root = tree_of(store, [41, 60], root)
        self.assertEqual(shape_of(store, root), (11, [(9, [10, 20, 30, 39]), (10, [40, 41, 50, 60])]))

    def test_a_key_below_all_others_goes_to_the_first_child(self):
        store = store_with(9)
        root = tree_of(store, [10, 20, 30, 40, 50])
        root = tree_of(store, [5], root)
        self.assertEqual(shape_of(store, root), (11, [(9, [5, 10, 20, 30]), (10, [40, 50])]))
        self.assertEqual([key for key, _ in node_at(store, root)[1]], [key_of(5), key_of(40)])

    def test_least_keys_change_up_to_the_root(self):
        store = store_with(9)
        root = tree_of(store, range(10, 27))
        self.assertEqual(height(store, root), 3)
        root = tree_of(store, [3], root)
        self.assert_tree(store, root, {key_of(number): value_of(number) for number in [3, *range(10, 27)]})
        root = without(store, root, [3])
        self.assert_tree(store, root, {key_of(number): value_of(number) for number in range(10, 27)})

    def test_the_nodes_on_the_way_are_copied_root_first(self):
        store = store_with(9)
        root = tree_of(store, range(1, 18))
        before = shape_of(store, root)
        store = commit(store)
        for number, written in ((2, (2, 0, 0, 0)), (2, value_of(2))):
            saved = store.saved()
            copied = put(store, root, key_of(number), written)
            self.assertEqual(copied, (18, 5))
            leaves = [(20, [1, 2, 3])] + before[1][0][1][1:]
            self.assertEqual(shape_of(store, copied), (18, [(19, leaves), before[1][1]]))
            self.assertEqual(look_up(store, copied, key_of(2)), written)
            self.assertEqual(store.new_blocks(), [18, 19, 20])
            self.assertEqual([number for number in range(9, 18) if not store.uses((number, 4))], [9, 11, 17])
            self.assertEqual((store.space.pending(), store.uses(copied)), (3, 1))
            self.assert_uses(store, [(copied, True), *HELD])
            store.restore(saved)
        self.assertEqual(shape_of(store, root), before)

    def test_new_nodes_are_not_copied_again(self):
        store = store_with(9)
        root = tree_of(store, range(1, 18))
        store = commit(store)
        root = put(store, root, key_of(2), value_of(3))
        self.assertEqual(put(store, root, key_of(3), value_of(4)), root)
        self.assertEqual(store.new_blocks(), [18, 19, 20])
        self.assertEqual(put(store, root, key_of(5), value_of(4)), root)
        self.assertEqual(store.new_blocks(), [18, 19, 20, 21])

    def test_copies_come_before_the_parts_of_splits(self):
        store = store_with(9)
        root = tree_of(store, [*range(1, 15), 15, 16])
        store = commit(store)
        root = put(store, root, key_of(17), value_of(17))
        parts = (15, [(9, [1, 2, 3]), (10, [4, 5, 6]), (12, [7, 8, 9])])
        after = (18, [(13, [10, 11, 12]), (16, [13, 14, 15]), (17, [16, 17])])
        self.assertEqual(root, (19, 5))
        self.assertEqual(shape_of(store, root), (19, [parts, after]))


class TakeTest(TreeCase):

    def test_a_key_that_is_not_there_changes_nothing(self):
        for numbers in ([], [2, 4, 6], range(2, 60, 2)):
            store = store_with(9)
            root = tree_of(store, numbers)
            for at in range(2):
                before = state_of(store)
                for missing in (0, 1, 3, 5, 7, 31, 61):
                    self.assertEqual(take(store, root, key_of(missing)), (root, None))
                self.assertEqual(take(store, root, (2, 1, 1)), (root, None))
                self.assertEqual(take(store, root, (2, 0, 0)), (root, None))
                self.assertEqual(state_of(store), before)
                store = commit(store)
                store.use_reserve(96)

    def test_the_value_is_returned(self):
        store = store_with(9)
        root = tree_of(store, range(1, 4))
        self.assertEqual(take(store, root, key_of(2)), ((9, 4), value_of(2)))
        self.assertEqual(take(store, root, key_of(2)), ((9, 4), None))
        root = put(store, root, key_of(2), (0, 0, 0, 0))
        self.assertEqual(take(store, root, key_of(2)), ((9, 4), (0, 0, 0, 0)))

    def test_joining_with_the_child_before(self):
        store = store_with(9)
        root = tree_of(store, range(1, 9))
        self.assertEqual(shape_of(store, root), (11, [(9, [1, 2, 3]), (10, [4, 5, 6]), (12, [7, 8])]))
        root = without(store, root, [6, 8])
        self.assertEqual(shape_of(store, root), (11, [(9, [1, 2, 3]), (10, [4, 5, 7])]))
        self.assertEqual(store.new_blocks(), [9, 10, 11])

    def test_dividing_with_the_child_before(self):
        store = store_with(9)
        root = tree_of(store, range(1, 8))
        root = tree_of(store, [10, 11], without(store, root, [7]))
        self.assertEqual(shape_of(store, root), (11, [(9, [1, 2, 3]), (10, [4, 5, 6]), (12, [10, 11])]))
        root = tree_of(store, [7], root)
        root = without(store, root, [11])
        self.assertEqual(shape_of(store, root), (11, [(9, [1, 2, 3]), (10, [4, 5, 6]), (12, [7, 10])]))
        self.assertEqual([key for key, _ in node_at(store, root)[1]], [key_of(1), key_of(4), key_of(7)])

    def test_joining_with_the_child_after(self):
        store = store_with(9)
        root = tree_of(store, range(1, 9))
        root = without(store, root, [1, 2])
        self.assertEqual(shape_of(store, root), (11, [(9, [3, 4, 5, 6]), (12, [7, 8])]))
        self.assertEqual(store.new_blocks(), [9, 11, 12])
        self.assertEqual([key for key, _ in node_at(store, root)[1]], [key_of(3), key_of(7)])

    def test_dividing_with_the_child_after(self):
        store = store_with(9)
        root = tree_of(store, [1, 2, 3, 4, 5, 6, 7])
        root = without(store, root, [1, 2])
        self.assertEqual(shape_of(store, root), (11, [(9, [3, 4, 5]), (10, [6, 7])]))
        self.assertEqual([key for key, _ in node_at(store, root)[1]], [key_of(3), key_of(6)])

    def test_the_child_before_is_preferred(self):
        store = store_with(9)
        root = tree_of(store, range(1, 9))
        root = without(store, root, [4, 5])
        self.assertEqual(shape_of(store, root), (11, [(9, [1, 2, 3, 6]), (12, [7, 8])]))

    def test_the_other_child_is_copied_if_it_is_not_new(self):
        store = store_with(9)
        root = tree_of(store, range(1, 9))
        store = commit(store)
        saved = store.saved()
        root = without(store, (11, 4), [8])
        self.assertEqual(shape_of(store, root), (13, [(9, [1, 2, 3]), (15, [4, 5, 6, 7])]))
        self.assertEqual((store.new_blocks(), store.uses((9, 4)), store.uses((10, 4))), ([13, 15], 1, 0))
        store.restore(saved)
        root = without(store, (11, 4), [1, 2])
        self.assertEqual(shape_of(store, root), (13, [(14, [3, 4, 5, 6]), (12, [7, 8])]))
        self.assertEqual((store.new_blocks(), store.space.pending()), ([13, 14], 3))
        store.restore(saved)
        root = without(store, tree_of(store, [0], (11, 4)), [4, 5])
        self.assertEqual(shape_of(store, root), (13, [(14, [0, 1, 2]), (15, [3, 6]), (12, [7, 8])]))

    def test_a_joined_node_gives_its_block_back_before_the_next_copy(self):
        store = store_with(9)
        root = tree_of(store, range(1, 18))
        store = commit(store)
        left = [(9, [1, 2, 3]), (10, [4, 5, 6]), (12, [7, 8, 9])]
        root = without(store, root, [17])
        right = [(13, [10, 11, 12]), (21, [13, 14, 15, 16])]
        self.assertEqual(shape_of(store, root), (18, [(11, left), (19, right)]))
        root = without(store, root, [16, 15, 14])
        self.assertEqual(shape_of(store, root), (21, left + [(20, [10, 11, 12, 13])]))
        self.assertEqual(store.new_blocks(), [20, 21])
        self.assert_uses(store, [(root, True), *HELD])

    def test_dividing_inner_nodes(self):
        store = store_with(9)
        root = tree_of(store, range(1, 15))
        root = tree_of(store, range(15, 24), root)
        self.assertEqual([len(node_at(store, child)[1]) for _, child in node_at(store, root)[1]], [3, 5])
        root = without(store, root, [1, 2, 3, 4])
        self.assertEqual([len(node_at(store, child)[1]) for _, child in node_at(store, root)[1]], [2, 5])
        root = without(store, root, [5])
        self.assertEqual([len(node_at(store, child)[1]) for _, child in node_at(store, root)[1]], [3, 3])
        self.assert_tree(store, root, {key_of(number): value_of(number) for number in range(6, 24)})
        self.assertEqual([child[0] for _, child in node_at(store, root)[1]], [11, 16])

    def test_a_root_with_one_child_becomes_its_child(self):
        store = store_with(9)
        first = inner_at(store, 11, [leaf_at(store, 9, [1, 2]), leaf_at(store, 10, [3, 4])])
        second = inner_at(store, 14, [leaf_at(store, 12, [5, 6]), leaf_at(store, 13, [7, 8])])
        _, root = inner_at(store, 15, [first, second])
        self.assertEqual(take(store, root, key_of(8)), ((11, 4), value_of(8)))
        self.assertEqual(shape_of(store, (11, 4)), (11, [(9, [1, 2]), (10, [3, 4]), (12, [5, 6, 7])]))
        self.assertEqual(store.new_blocks(), [9, 10, 11, 12])
        self.assert_uses(store, [((11, 4), True), *HELD])


class ReadingTest(TreeCase):

    def test_items_and_their_order(self):
        for many in (0, 1, 3, 4, 5, 17, 60):
            store = store_with(9, blocks=256)
            numbers = [number * 2 for number in range(1, many + 1)]
            root = tree_of(store, numbers)
            before = state_of(store)
            items = [(key_of(number), value_of(number)) for number in numbers]
            bounds = range(0, 2 * many + 4)
            for low in bounds:
                later = [item for item in items if item[0] >= key_of(low)]
                self.assertEqual(next_item(store, root, key_of(low)), later[0] if later else None)
                for high in (0, low - 1, low, low + 1, low + 7, 2 * many, 2 * many + 9):
                    expected = [item for item in later if item[0] < key_of(high)]
                    self.assertEqual(items_between(store, root, key_of(low), key_of(high)), expected)
            self.assertEqual(last_item(store, root), items[-1] if items else None)
            self.assertEqual(state_of(store), before)

    def test_bounds_are_compared_as_tuples(self):
        store = store_with(9)
        keys = [(1, 1, 0), (1, 2, 5), (1, 2, 9), (1, 3, 0), (2, 1, 0), (2, 2, 7)]
        root = empty_tree(store)
        for key in keys:
            root = put(store, root, key, value_of(1))
        found = [key for key, _ in items_between(store, root, (1, 2, 0), (1, 3, 0))]
        self.assertEqual(found, keys[1:3])
        self.assertEqual(next_item(store, root, (1, 2, 6))[0], (1, 2, 9))
        self.assertEqual(next_item(store, root, (1, 3, 1))[0], (2, 1, 0))
        self.assertIs(next_item(store, root, (2, 2, 8)), None)
        self.assertIs(look_up(store, root, (1, 2, 6)), None)
        self.assertEqual(last_item(store, root)[0], (2, 2, 7))

    def test_height_and_node_pointers(self):
        store = store_with(9)
        root = tree_of(store, range(1, 18))
        self.assertEqual(height(store, root), 3)
        numbers = [pointer[0] for pointer in node_pointers(store, root)]
        self.assertEqual(numbers, [17, 11, 9, 10, 12, 16, 13, 14, 15])
        self.assertEqual({pointer[1] for pointer in node_pointers(store, root)}, {4})

    def test_node_pointers_do_not_follow_the_pointers_in_leaves(self):
        store = store_with(9)
        other = empty_tree(store)
        root = empty_tree(store)
        for kind in (3, 4, 6):
            root = put(store, root, (0, kind, 1), (*other, 0, 0))
        self.assertEqual(node_pointers(store, root), [root])

    def test_blocks_that_are_not_nodes(self):
        store = store_with(9)
        data = store.make([7] * 32)
        for function in (height, last_item, node_pointers, release):
            with self.assertRaises(BadImage):
                function(store, data)
        for function in (look_up, take, next_item):
            with self.assertRaises(BadImage):
                function(store, data, key_of(1))
        with self.assertRaises(BadImage):
            put(store, data, key_of(1), value_of(1))
        with self.assertRaises(BadImage):
            items_between(store, data, key_of(1), key_of(2))
        with self.assertRaises(BadImage):
            put(store, (6, 1), key_of(1), value_of(1))

    def test_children_that_are_not_nodes(self):
        store = store_with(9)
        data = store.make([7] * 32)
        _, root = inner_at(store, 11, [leaf_at(store, 10, [1, 2]), (key_of(5), data)])
        self.assertEqual(look_up(store, root, key_of(1)), value_of(1))
        for function in (look_up, take, next_item):
            with self.assertRaises(BadImage):
                function(store, root, key_of(5))
        for function in (last_item, node_pointers, release):
            with self.assertRaises(BadImage):
                function(store, root)


class SharingTest(TreeCase):

    def test_a_shared_tree_is_left_as_it_was(self):
        for settled in (False, True):
            store = store_with(5)
            root = tree_of(store, range(1, 18))
            expected = {key_of(number): value_of(number) for number in range(1, 18)}
            if settled:
                store = commit(store)
            store.share(root)
            before = shape_of(store, root)
            other = put(store, root, key_of(2), value_of(9))
            self.assertNotEqual(other, root)
            self.assert_tree(store, root, expected)
            self.assertEqual(shape_of(store, root), before)
            self.assert_tree(store, other, {**expected, key_of(2): value_of(9)})
            self.assert_uses(store, [(root, True), (other, True)])
            other = without(store, other, [2, 5, 6, 17, 13])
            other = tree_of(store, [20, 21, 22], other)
            self.assert_tree(store, root, expected)
            self.assertEqual(shape_of(store, root), before)
            self.assert_uses(store, [(root, True), (other, True)])
            release(store, other)
            self.assert_uses(store, [(root, True)])
            release(store, root)
            self.assertEqual(uses_of(store), [1] * 5 + [0] * 91)
            self.assertEqual(store.new_blocks(), [])

    def test_what_is_shared_and_new_is_copied(self):
        store = store_with(9)
        root = tree_of(store, range(1, 6))
        store.share(root)
        other = put(store, root, key_of(1), value_of(2))
        self.assertEqual(shape_of(store, root), (11, [(9, [1, 2, 3]), (10, [4, 5])]))
        self.assertEqual(shape_of(store, other), (12, [(13, [1, 2, 3]), (10, [4, 5])]))
        self.assertEqual([store.uses((number, 4)) for number in range(9, 14)], [1, 2, 1, 1, 1])
        self.assertEqual(put(store, root, key_of(1), value_of(3)), root)
        self.assertEqual(shape_of(store, root), (11, [(9, [1, 2, 3]), (10, [4, 5])]))
        root = put(store, root, key_of(4), value_of(3))
        self.assertEqual(shape_of(store, root), (11, [(9, [1, 2, 3]), (14, [4, 5])]))
        self.assertEqual(put(store, other, key_of(4), value_of(3)), (12, 4))
        self.assertEqual(shape_of(store, other), (12, [(13, [1, 2, 3]), (10, [4, 5])]))

    def test_joining_with_a_shared_child(self):
        for numbers in ([5], [1, 2]):
            store = store_with(9)
            root = tree_of(store, range(1, 6))
            store.share(root)
            other = without(store, root, numbers)
            left = [number for number in range(1, 6) if number not in numbers]
            self.assert_tree(store, other, {key_of(number): value_of(number) for number in left})
            self.assertEqual(shape_of(store, root), (11, [(9, [1, 2, 3]), (10, [4, 5])]))
            self.assert_uses(store, [(root, True), (other, True), *HELD])

    def test_copying_a_leaf_counts_the_pointers_in_it(self):
        store = store_with(5)
        data, tree = store.make([1] * 32), tree_of(store, [1])
        root = empty_tree(store)
        values = {(1, 3, 0): (*data, 0, 0), (1, 4, 0): (*tree, 0, 0), (1, 6, 0): (*tree, 0, 0), (1, 1, 0): (*data, 0, 0)}
        for key, value in values.items():
            root = put(store, root, key, value)
        store.share(tree)
        self.assert_uses(store, [(root, True)])
        store.share(root)
        other = put(store, root, (1, 1, 0), (9, 9, 9, 9))
        self.assertEqual((store.uses(data), store.uses(tree), store.uses(root)), (2, 4, 1))
        self.assert_uses(store, [(root, True), (other, True)])
        store = commit(store)
        later = put(store, other, (1, 1, 0), (8, 8, 8, 8))
        self.assertEqual((store.uses(data), store.uses(tree), store.uses(other)), (2, 4, 0))
        self.assert_uses(store, [(root, True), (later, True)])

    def test_the_caller_counts_the_pointers_of_values(self):
        store = store_with(5)
        first, second = store.make([1] * 32), store.make([2] * 32)
        root = empty_tree(store)
        root = put(store, root, (1, 3, 0), (*first, 0, 0))
        root = put(store, root, (1, 3, 0), (*second, 0, 0))
        self.assertEqual((store.uses(first), store.uses(second)), (1, 1))
        root, value = take(store, root, (1, 3, 0))
        self.assertEqual((value, store.uses(first), store.uses(second)), ((*second, 0, 0), 1, 1))

    def test_the_pointer_to_the_old_root_is_used_up(self):
        store = store_with(5)
        root = tree_of(store, range(1, 4))
        store = commit(store)
        store.share(root)
        other = put(store, root, key_of(9), value_of(9))
        self.assertEqual((store.uses(root), store.uses(other)), (1, 1))
        other, _ = take(store, other, key_of(9))
        self.assertEqual((store.uses(root), store.uses(other)), (1, 1))
        last, _ = take(store, root, key_of(1))
        self.assertEqual((store.uses(root), store.uses(other), store.uses(last)), (0, 1, 1))


class ReleaseTest(TreeCase):

    def test_a_block_of_data(self):
        store = store_with(9)
        data = store.make([2, 1, 9, 4, 1, 1, 1, 8, 1] + [0] * 23)
        store.share(data)
        release_pointer(store, data, False)
        self.assertEqual(store.uses(data), 1)
        release_pointer(store, data, False)
        self.assertEqual((store.uses(data), store.uses((8, 1)), store.new_blocks()), (0, 1, []))

    def test_a_node_without_the_last_use_keeps_its_pointers(self):
        store = store_with(5)
        root = tree_of(store, range(1, 6))
        store.share(root)
        release(store, root)
        self.assert_uses(store, [(root, True)])
        release_pointer(store, root, True)
        self.assertEqual((store.new_blocks(), store.free()), ([], 91))

    def test_all_that_a_table_leads_to(self):
        for settled in (False, True):
            store = store_with(5)
            tree = tree_of(store, range(1, 6))
            data = store.make([1] * 32)
            tree = put(store, tree, (1, 3, 0), (*data, 0, 0))
            table = empty_tree(store)
            for kind in (4, 6):
                table = put(store, table, (0, kind, 1), (*tree, 1, 0))
            store.share(tree)
            table = tree_of(store, range(1, 10), table)
            self.assert_uses(store, [(table, True)])
            if settled:
                store = commit(store)
            release(store, table)
            self.assertEqual(uses_of(store), [1] * 5 + [0] * 91)
            self.assertEqual(store.space.pending() > 0, settled)
            self.assertEqual(store.free() + store.space.pending(), 91)

    def test_the_order_of_the_pointers(self):
        store = store_with(9)
        root = tree_of(store, range(1, 18))
        given_up = []
        drop = store.drop

        def noted(pointer):
            given_up.append(pointer[0])
            return drop(pointer)

        store.drop = noted
        release(store, root)
        self.assertEqual(given_up, [17, 11, 9, 10, 12, 16, 13, 14, 15])


class RoomTest(TreeCase):

    def blocks_taken(self, store, change, *arguments):
        """What a change of a tree returns, and how many blocks it takes, those that it gives back included."""
        made, make = [], store.make

        def noted(words):
            made.append(make(words))
            return made[-1]

        store.make = noted
        found = change(store, *arguments)
        store.make = make
        return found, len(made)

    def test_the_blocks_that_a_put_and_a_take_need(self):
        most_put, most_taken = {}, {}
        for seed in range(10):
            store = store_with(5, blocks=256)
            root = empty_tree(store)
            chosen = random.Random(seed)
            for at in range(200):
                key = key_of(chosen.randrange(5 + 20 * seed))
                store = commit(store)
                levels = height(store, root)
                if at % 100 < 70:
                    root, many = self.blocks_taken(store, put, root, key, value_of(at))
                    most_put[levels] = max(most_put.get(levels, 0), many)
                else:
                    (root, _), many = self.blocks_taken(store, take, root, key)
                    most_taken[levels] = max(most_taken.get(levels, 0), many)
        for levels in (1, 2, 3):
            self.assertEqual((most_put[levels], most_taken[levels]), (2 * levels + 1, 2 * levels - 1))
        for levels, many in most_put.items():
            self.assertLessEqual(many, 2 * levels + 1)
        for levels, many in most_taken.items():
            self.assertLessEqual(many, 2 * levels - 1)

    def test_a_put_that_just_fits(self):
        for reserve in (0, 20):
            store = store_with(5)
            root = tree_of(store, range(1, 17))
            store = commit(store)
            while store.free() > reserve + 5:
                store.make([0] * 32)
            saved, before = store.saved(), state_of(store)
            for more in (1, 2, 3, 4, 5, 0):
                store.use_reserve(reserve + more)
                if more == 0:
                    self.assertEqual(height(store, put(store, root, key_of(17), value_of(17))), 3)
                    self.assertEqual(store.free(), reserve)
                else:
                    with self.assertRaises(NoSpace):
                        put(store, root, key_of(17), value_of(17))
                store.restore(saved)
                store.use_reserve(0)
                self.assertEqual(state_of(store), before)

    def test_a_take_that_just_fits(self):
        store = store_with(5)
        root = tree_of(store, range(1, 9))
        store = commit(store)
        saved, before = store.saved(), state_of(store)
        for fewer in (3, 2, 1, 0):
            store.use_reserve(store.free() - fewer)
            self.assertEqual(take(store, root, key_of(99)), (root, None))
            if fewer == 3:
                other, _ = take(store, root, key_of(8))
                self.assertEqual(len(checked_items(store, other)[0]), 7)
            else:
                with self.assertRaises(NoSpace):
                    take(store, root, key_of(8))
            store.restore(saved)
            store.use_reserve(0)
            self.assertEqual(state_of(store), before)

    def test_a_saved_store_is_restored_after_no_space(self):
        store = store_with(5)
        root = tree_of(store, range(1, 30))
        store = commit(store)
        store.share(root)
        expected = {key_of(number): value_of(number) for number in range(1, 30)}
        other = put(store, root, key_of(15), value_of(1))
        for reserve in range(store.free() + 1):
            saved, before = store.saved(), state_of(store)
            store.use_reserve(reserve)
            try:
                put(store, other, key_of(100), value_of(1))
            except NoSpace:
                pass
            store.use_reserve(0)
            store.restore(saved)
            self.assertEqual(state_of(store), before)
        self.assert_tree(store, root, expected)
        self.assert_tree(store, other, {**expected, key_of(15): value_of(1)})
        self.assert_uses(store, [(root, True), (other, True)])


class ManyChangesTest(TreeCase):

    def test_one_tree_against_a_dict(self):
        for seed, span in enumerate((6, 20, 60, 150, 400)):
            chosen = random.Random(seed)
            store = store_with(5, blocks=256)
            root, expected = empty_tree(store), {}
            for at in range(400):
                key = (chosen.randrange(span), chosen.choice((1, 2, 5)), chosen.randrange(2))
                if chosen.random() < (0.7 if at % 200 < 110 else 0.25) and len(expected) < 280:
                    expected[key] = (at, chosen.randrange(9), 0, 10 ** 20)
                    root = put(store, root, key, expected[key])
                else:
                    root, value = take(store, root, key)
                    self.assertEqual(value, expected.pop(key, None))
                items, levels = checked_items(store, root)
                self.assertEqual(items, sorted(expected.items()))
                self.assertEqual(uses_of(store), counted_uses(store, [(root, True)]))
                if at % 37 == 0:
                    store = commit(store)
            self.assert_tree(store, root, expected)
            for key in sorted(expected, key=lambda _: chosen.random()):
                root, value = take(store, root, key)
                self.assertEqual(value, expected.pop(key))
                self.assertEqual(checked_items(store, root)[0], sorted(expected.items()))
            self.assert_uses(store, [(root, True)])

    def test_the_greatest_height(self):
        store = store_with(5, blocks=256)
        root, number = empty_tree(store), 10 ** 6
        while store.free() > 15:
            root = put(store, root, key_of(number), value_of(number))
            number -= 1
        self.assertLessEqual(height(store, root), 7)
        self.assertGreaterEqual(len(node_pointers(store, root)), 2 ** height(store, root) - 1)

    def test_trees_that_share_nodes_against_dicts(self):
        for seed in range(6):
            chosen = random.Random(seed)
            store = store_with(5, blocks=256)
            trees = [(empty_tree(store), {})]
            for at in range(300):
                which = chosen.randrange(len(trees))
                root, expected = trees[which]
                key = (chosen.randrange(40), chosen.choice((1, 3)), 0)
                action = chosen.random()
                if action < 0.05 and len(trees) < 4 and store.free() > 120:
                    store.share(root)
                    trees.append((root, dict(expected)))
                    continue
                if action < 0.09 and len(trees) > 1:
                    release(store, root)
                    del trees[which]
                elif action < 0.6 and len(expected) < 45 and store.free() > 40:
                    trees[which] = self.put_one(store, root, expected, key, at)
                else:
                    trees[which] = self.take_one(store, root, expected, key)
                for root, expected in trees:
                    self.assertEqual(checked_items(store, root)[0], sorted(expected.items()))
                self.assert_uses(store, [(root, True) for root, _ in trees])
                self.assertEqual(store.new_blocks(), [number for number in range(256) if store.space.is_new(number)])
                if at % 41 == 0 or store.free() < 60:
                    store = commit(store)
            for root, _ in trees:
                release(store, root)
            self.assertEqual(uses_of(store), [1] * 5 + [0] * 251)

    def put_one(self, store, root, expected, key, at):
        """Put an item, with a new block of data if its kind asks for one."""
        value = (*store.make([at] * 32), 0, 0) if key[1] == 3 else (at, 0, 0, 0)
        old = expected.get(key)
        root = put(store, root, key, value)
        if old is not None and key[1] == 3:
            release_pointer(store, old[:2], False)
        expected[key] = value
        return root, expected

    def take_one(self, store, root, expected, key):
        """Take an item, and give up the pointer in it."""
        root, value = take(store, root, key)
        self.assertEqual(value, expected.pop(key, None))
        if value is not None and key[1] == 3:
            release_pointer(store, value[:2], False)
        return root, expected


if __name__ == "__main__":
    unittest.main()
