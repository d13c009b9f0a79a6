"""Nodes: points [16] to [21]."""

import unittest

from laminae.errors import BadImage, NotValid
from laminae.nodes import (
    INNER, INNER_ITEMS, LEAF, LEAF_ITEMS, child_of, from_block, most_items, own_pointer, place_of, pointers,
    split_items, to_block)

GREAT = 10 ** 90


def leaf_items(many):
    """Items of a leaf, with great words in keys and values."""
    return [((GREAT + at, 7, at), (at, GREAT, 0, GREAT + at)) for at in range(many)]


def inner_items(many):
    """Items of an inner node."""
    return [((at, GREAT, 3), (5 + 50 * at, GREAT + at)) for at in range(many)]


def block_of(kind, items, pointer=(7, 3)):
    """The block of a node, written without the module."""
    words = [kind, len(items), *pointer]
    for key, content in items:
        words += [*key, *content]
    return words + [0] * (32 - len(words))


def keyed(*numbers):
    """Items with these keys."""
    return [((number, 1, 0), (9, 1)) for number in numbers]


class BlocksTest(unittest.TestCase):

    def test_constants(self):
        self.assertEqual((LEAF, INNER, LEAF_ITEMS, INNER_ITEMS), (1, 2, 4, 5))

    def test_most_items(self):
        self.assertEqual((most_items(LEAF), most_items(INNER)), (4, 5))
        for kind in (0, 3, -1, 4, 5, GREAT):
            with self.assertRaises(NotValid):
                most_items(kind)

    def test_the_example_of_the_interface(self):
        block = to_block(1, [((1, 1, 0), (2, 1, 0, 0))], (7, 3))
        self.assertEqual(block, [1, 1, 7, 3, 1, 1, 0, 2, 1] + [0] * 23)

    def test_all_numbers_of_items(self):
        for kind, most, make in ((LEAF, 4, leaf_items), (INNER, 5, inner_items)):
            for many in range(most + 1):
                for pointer in ((5, 1), (255, GREAT)):
                    items = make(many)
                    block = to_block(kind, items, pointer)
                    self.assertEqual(block, block_of(kind, items, pointer))
                    self.assertEqual(len(block), 32)
                    self.assertEqual(items, make(many))
                    before = list(block)
                    found = from_block(block)
                    self.assertEqual(found, (kind, items))
                    self.assertEqual(own_pointer(block), pointer)
                    self.assertEqual(block, before)
                    self.assertIsInstance(found, tuple)
                    self.assertIsInstance(found[1], list)
                    for item in found[1]:
                        self.assertEqual([type(item), type(item[0]), type(item[1])], [tuple] * 3)
                    found[1].append(None)
                    self.assertEqual(from_block(block), (kind, items))

    def test_own_pointer_looks_at_nothing_else(self):
        found = own_pointer([9, 9, 3, GREAT] + [1] * 28)
        self.assertEqual(found, (3, GREAT))
        self.assertIsInstance(found, tuple)

    def test_wrong_kinds_are_not_written(self):
        for kind in (0, 3, -1, 7, GREAT):
            with self.assertRaises(NotValid):
                to_block(kind, [], (7, 3))

    def test_too_many_items_are_not_written(self):
        with self.assertRaises(NotValid):
            to_block(LEAF, leaf_items(5), (7, 3))
        with self.assertRaises(NotValid):
            to_block(INNER, inner_items(6), (7, 3))

    def test_keys_that_do_not_ascend_are_not_written(self):
        for kind, make in ((LEAF, leaf_items), (INNER, inner_items)):
            items = make(4)
            for wrong in (items[::-1], [items[0], items[0]], items[:2] + [items[3], items[2]], [items[1], items[0]]):
                before = list(wrong)
                with self.assertRaises(NotValid):
                    to_block(kind, wrong, (7, 3))
                self.assertEqual(wrong, before)

    def test_keys_are_compared_as_tuples(self):
        keys = [(1, 9, 9), (2, 0, 5), (2, 1, 4), (2, 1, GREAT)]
        items = [(key, (0, 0, 0, 0)) for key in keys]
        self.assertEqual(from_block(to_block(LEAF, items, (7, 3))), (LEAF, items))


class FromBlockTest(unittest.TestCase):

    def assert_bad(self, block):
        before = list(block)
        with self.assertRaises(BadImage):
            from_block(block)
        with self.assertRaises(BadImage):
            pointers(block)
        self.assertEqual(block, before)

    def changed(self, block, at, value):
        """The block with another word at this place."""
        return block[:at] + [value] + block[at + 1:]

    def test_the_kind(self):
        for kind in (0, 3, 4, GREAT):
            self.assert_bad(self.changed(block_of(LEAF, leaf_items(2)), 0, kind))
        self.assert_bad([0] * 32)

    def test_the_number_of_items(self):
        for many in (5, 6, 28, GREAT):
            self.assert_bad(self.changed(block_of(LEAF, leaf_items(4)), 1, many))
        for many in (6, 7, GREAT):
            self.assert_bad(self.changed(block_of(INNER, inner_items(5)), 1, many))
        self.assert_bad([INNER, 6, 7, 3] + [0] * 28)

    def test_the_order_of_the_keys(self):
        for kind, make in ((LEAF, leaf_items), (INNER, inner_items)):
            items = make(4)
            for wrong in (items[::-1], [items[0], items[0]], items[:2] + [items[3], items[2]], [items[1], items[0]]):
                self.assert_bad(block_of(kind, wrong))

    def test_the_words_after_the_items(self):
        for kind, most, make in ((LEAF, 4, leaf_items), (INNER, 5, inner_items)):
            for many in range(most + 1):
                block = block_of(kind, make(many))
                for at in range(4 + many * (7 if kind == LEAF else 5), 32):
                    self.assert_bad(self.changed(block, at, 1))
                    self.assert_bad(self.changed(block, at, GREAT))

    def test_the_own_pointer(self):
        for kind, items in ((LEAF, leaf_items(2)), (LEAF, []), (INNER, inner_items(2)), (INNER, [])):
            for pointer in ((4, 3), (0, 3), (256, 3), (GREAT, 3), (7, 0)):
                self.assert_bad(block_of(kind, items, pointer))
            for pointer in ((5, 1), (255, 1), (255, GREAT)):
                self.assertEqual(from_block(block_of(kind, items, pointer)), (kind, items))

    def test_the_pointers_of_inner_items(self):
        for at in range(5):
            for pointer in ((4, 3), (0, 3), (256, 3), (GREAT, 3), (7, 0)):
                items = inner_items(5)
                items[at] = (items[at][0], pointer)
                self.assert_bad(block_of(INNER, items))

    def test_the_words_of_values_are_not_looked_at(self):
        items = [((1, kind, 0), (0, 0, GREAT, 1)) for kind in (1, 3, 4, 6)]
        self.assertEqual(from_block(block_of(LEAF, items)), (LEAF, items))


class PointersTest(unittest.TestCase):

    def test_inner_nodes(self):
        for many in range(6):
            block = block_of(INNER, inner_items(many))
            self.assertEqual(pointers(block), [((5 + 50 * at, GREAT + at), True) for at in range(many)])
        items = [((1, kind, 0), (9, 2)) for kind in (1, 3, 4, 6)]
        self.assertEqual(pointers(block_of(INNER, items)), [((9, 2), True)] * 4)

    def test_leaves(self):
        kinds = {3: [((9, 2), False)], 4: [((9, 2), True)], 6: [((9, 2), True)]}
        for kind in (0, 1, 2, 3, 4, 5, 6, 7, 8, GREAT):
            block = block_of(LEAF, [((4, kind, 6), (9, 2, 6, 3))])
            self.assertEqual(pointers(block), kinds.get(kind, []), kind)
        self.assertEqual(pointers(block_of(LEAF, [])), [])

    def test_the_first_and_the_last_word_of_a_key_do_not_matter(self):
        self.assertEqual(pointers(block_of(LEAF, [((3, 1, 3), (9, 2, 0, 0)), ((4, 5, 6), (9, 2, 0, 0))])), [])

    def test_the_order_of_the_items(self):
        items = [((at, kind, 0), (20 - at, 2 + at, 0, 0)) for at, kind in enumerate((6, 2, 3, 4))]
        expected = [((20, 2), True), ((18, 4), False), ((17, 5), True)]
        block = block_of(LEAF, items)
        self.assertEqual(pointers(block), expected)
        for pointer, is_node in pointers(block):
            self.assertIsInstance(pointer, tuple)
            self.assertIsInstance(is_node, bool)
        self.assertEqual(block, block_of(LEAF, items))


class ItemsTest(unittest.TestCase):

    def test_split_items(self):
        self.assertEqual(split_items([1, 2, 3, 4, 5], 4), [[1, 2, 3], [4, 5]])
        self.assertEqual(split_items([1, 2, 3, 4, 5, 6], 5), [[1, 2, 3], [4, 5, 6]])
        self.assertEqual(split_items([1, 2, 3, 4, 5, 6, 7], 4), [[1, 2, 3, 4], [5, 6, 7]])
        for many in range(7):
            items = list(range(many))
            for most in range(many, 8):
                self.assertEqual(split_items(items, most), [items])
            self.assertEqual(items, list(range(many)))

    def test_the_parts_are_new_lists(self):
        for most in (3, 4):
            items = [1, 2, 3, 4]
            for part in split_items(items, most):
                part.append(9)
            self.assertEqual(items, [1, 2, 3, 4])

    def test_place_of(self):
        items = keyed(2, 4, 6)
        places = [place_of(items, (number, 1, 0)) for number in range(8)]
        self.assertEqual(places, [0, 0, 0, 1, 1, 2, 2, 3])
        self.assertEqual([place_of(items, (4, 0, 9)), place_of(items, (4, 1, 1)), place_of(items, (4, 2, 0))], [1, 2, 2])
        self.assertEqual(place_of([], (1, 1, 0)), 0)
        self.assertEqual(items, keyed(2, 4, 6))

    def test_child_of(self):
        items = keyed(2, 4, 6)
        children = [child_of(items, (number, 1, 0)) for number in range(8)]
        self.assertEqual(children, [0, 0, 0, 0, 1, 1, 2, 2])
        self.assertEqual([child_of(items, (4, 0, 9)), child_of(items, (4, 1, 1)), child_of(items, (6, 0, 0))], [0, 1, 1])
        self.assertEqual(child_of([((1, 1, 0), (9, 2)), ((4, 1, 0), (10, 2))], (3, 3, 5)), 0)
        self.assertEqual([child_of(keyed(2), (number, 1, 0)) for number in (1, 2, 3)], [0, 0, 0])
        self.assertEqual(items, keyed(2, 4, 6))


if __name__ == "__main__":
    unittest.main()
