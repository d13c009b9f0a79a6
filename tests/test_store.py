"""The store: points [26] to [30]."""

import copy
import unittest

from helpers import commit, state_of, store_with
from laminae.disk import Disk
from laminae.errors import NoSpace, NotValid, PowerOff
from laminae.heads import Head
from laminae.space import Space
from laminae.store import Store

ZEROS = [0] * 32


def words_of(number):
    """32 different words."""
    return [number * 100 + k for k in range(32)]


class StoreTest(unittest.TestCase):

    def test_the_fields(self):
        disk, head, space = Disk(96), Head(6, (9, 2), 96), Space([1] * 5 + [0] * 91)
        store = Store(disk, head, space)
        self.assertIs(store.disk, disk)
        self.assertIs(store.head, head)
        self.assertIs(store.space, space)
        self.assertEqual((store.table, store.reserve, store.generation()), ((9, 2), 60, 7))
        self.assertEqual((store.free(), store.new_blocks()), (91, []))
        self.assertEqual(Store(disk, Head(0, (0, 0), 96), space).generation(), 1)

    def test_the_table_and_the_reserve_are_assigned(self):
        store = store_with()
        store.use_table((30, 4))
        store.use_reserve(20)
        self.assertEqual((store.table, store.reserve), ((30, 4), 20))
        store.table = (31, 4)
        store.reserve = 89
        self.assertEqual([store.make(ZEROS), store.make(ZEROS)], [(5, 4), (6, 4)])
        with self.assertRaises(NoSpace):
            store.make(ZEROS)
        self.assertEqual(store.head.table, (5, 1))

    def test_making_blocks(self):
        store = store_with(9)
        self.assertEqual(store.next_pointer(), (9, 4))
        self.assertEqual(store.make(words_of(1)), (9, 4))
        self.assertEqual(store.next_pointer(), (10, 4))
        self.assertEqual(store.make(words_of(2)), (10, 4))
        self.assertEqual((store.read((9, 4)), store.read((10, 4))), (words_of(1), words_of(2)))
        self.assertEqual((store.uses((9, 4)), store.free(), store.new_blocks()), (1, 85, [9, 10]))
        self.assertEqual((store.space.uses(9), store.space.is_new(9)), (1, True))
        store.drop((9, 4))
        self.assertEqual((store.next_pointer(), store.new_blocks()), ((9, 4), [10]))
        self.assertEqual(store.make(words_of(3)), (9, 4))
        self.assertEqual((store.read((9, 4)), store.new_blocks()), (words_of(3), [9, 10]))

    def test_next_pointer_changes_nothing(self):
        store = store_with(9)
        before = state_of(store)
        store.next_pointer()
        store.next_pointer()
        self.assertEqual(state_of(store), before)

    def test_reserves(self):
        for reserve in (0, 1, 20, 60):
            store = store_with(96 - reserve - 2, reserve=reserve)
            self.assertIs(store.require(2), None)
            with self.assertRaises(NoSpace):
                store.require(3)
            store.make(words_of(1))
            self.assertEqual(store.next_pointer(), (95 - reserve, 4))
            self.assertIs(store.require(1), None)
            with self.assertRaises(NoSpace):
                store.require(2)
            store.make(words_of(2))
            before = state_of(store)
            with self.assertRaises(NoSpace):
                store.make(words_of(3))
            with self.assertRaises(NoSpace):
                store.next_pointer()
            with self.assertRaises(NoSpace):
                store.require(1)
            self.assertIs(store.require(0), None)
            self.assertEqual(state_of(store), before)
            self.assertEqual(store.free(), reserve)
        store.use_reserve(61)
        with self.assertRaises(NoSpace):
            store.require(0)

    def test_contents_that_are_not_32_words(self):
        wrong = [None, tuple(ZEROS), [0] * 31, [0] * 33, [], [0] * 31 + [-1], [True] + [0] * 31, [None] + [0] * 31, "a"]
        store = store_with(9)
        pointer = store.make(words_of(1))
        before = state_of(store)
        for words in wrong:
            with self.assertRaises(NotValid):
                store.make(words)
            with self.assertRaises(NotValid):
                store.write(pointer, words)
        store.use_reserve(96)
        for words in wrong:
            with self.assertRaises(NotValid):
                store.make(words)
        with self.assertRaises(NoSpace):
            store.make(ZEROS)
        store.use_reserve(0)
        self.assertEqual(state_of(store), before)

    def test_great_words(self):
        words = [10 ** 100 + k for k in range(32)]
        store = store_with(9)
        self.assertEqual(store.read(store.make(words)), words)

    def test_what_is_passed_and_returned_is_copied(self):
        store = store_with(9)
        words = words_of(1)
        pointer = store.make(words)
        words[0] = 7
        self.assertEqual(store.read(pointer), words_of(1))
        words = words_of(2)
        store.write(pointer, words)
        words[0] = 7
        found = store.read(pointer)
        self.assertIsInstance(found, list)
        found[1] = 7
        self.assertEqual(store.read(pointer), words_of(2))
        numbers = store.new_blocks()
        numbers.append(77)
        self.assertEqual(store.new_blocks(), [9])
        kept = store.read(pointer), store.new_blocks()
        store.write(pointer, words_of(3))
        store.make(words_of(4))
        self.assertEqual(kept, (words_of(2), [9]))

    def test_reading_new_blocks_and_others(self):
        store = store_with(9)
        for sector in range(384):
            store.disk.write(sector, [sector * 10 + k for k in range(8)])
        for number in (5, 9, 95):
            expected = [sector * 10 + k for sector in range(4 * number, 4 * number + 4) for k in range(8)]
            self.assertEqual(store.read((number, 1)), expected)
        pointer = store.make(words_of(1))
        store.share(pointer)
        self.assertEqual(store.read(pointer), words_of(1))
        for left in (1, 0):
            self.assertEqual(store.read(pointer), words_of(1))
            self.assertEqual(store.drop(pointer), left)
        expected = [sector * 10 + k for sector in range(36, 40) for k in range(8)]
        self.assertEqual(store.read(pointer), expected)

    def test_a_dropped_block_of_the_disk_is_still_read_from_there(self):
        store = store_with(9)
        store.disk.write(32, [7] * 8)
        self.assertEqual(store.drop((8, 1)), 0)
        self.assertEqual(store.read((8, 1)), [7] * 8 + [0] * 24)
        self.assertEqual((store.free(), store.space.pending(), store.new_blocks()), (87, 1, []))
        self.assertEqual(store.next_pointer(), (9, 4))

    def test_only_the_number_of_a_pointer_is_looked_at(self):
        store = store_with(9)
        store.make(words_of(1))
        for birth in (0, 1, 10 ** 30):
            self.assertEqual(store.read((9, birth)), words_of(1))
            self.assertIs(store.is_new((9, birth)), True)
            store.write((9, birth), words_of(1))
            store.share((9, birth))
            self.assertEqual(store.uses((9, birth)), 2)
            self.assertEqual(store.drop((9, birth)), 1)

    def test_blocks_that_cannot_be_read(self):
        store = store_with()
        for number in (-1, 0, 4, 96, 97, 255, 10 ** 20):
            with self.assertRaises(NotValid):
                store.read((number, 1))
        self.assertEqual(store.read((5, 1)), ZEROS)
        self.assertEqual(store.read((95, 1)), ZEROS)

    def test_is_new(self):
        store = store_with(9)
        pointer = store.make(ZEROS)
        self.assertIs(store.is_new(pointer), True)
        store.share(pointer)
        self.assertIs(store.is_new(pointer), False)
        store.drop(pointer)
        self.assertIs(store.is_new(pointer), True)
        for number in (0, 4, 5, 8, 10, 95):
            self.assertIs(store.is_new((number, 4)), False)
        store.drop((8, 1))
        self.assertIs(store.is_new((8, 1)), False)
        for number in (-1, 96, 10 ** 20):
            with self.assertRaises(NotValid):
                store.is_new((number, 4))
        self.assertIs(commit(store).is_new(pointer), False)

    def test_writing_in_place(self):
        store = store_with(9)
        pointer = store.make(words_of(1))
        self.assertIs(store.write(pointer, words_of(2)), None)
        self.assertEqual((store.read(pointer), store.uses(pointer), store.new_blocks()), (words_of(2), 1, [9]))
        store.share(pointer)
        before = state_of(store)
        for number in (9, 8, 5, 4, 0, 10, 95, 96, -1):
            with self.assertRaises(NotValid):
                store.write((number, 4), words_of(3))
        self.assertEqual(state_of(store), before)
        store.drop(pointer)
        store.write(pointer, words_of(3))
        self.assertEqual(store.read(pointer), words_of(3))

    def test_share_drop_and_uses(self):
        store = store_with(9)
        pointer = store.make(words_of(1))
        for shared in (pointer, (8, 1)):
            self.assertIs(store.share(shared), None)
            self.assertEqual([store.uses(shared), store.drop(shared), store.drop(shared)], [2, 1, 0])
        before = state_of(store)
        for number in (9, 8, 10, 4, 0, 96, -1, 10 ** 20):
            with self.assertRaises(NotValid):
                store.share((number, 4))
            with self.assertRaises(NotValid):
                store.drop((number, 4))
        for number in (96, -1, 10 ** 20):
            with self.assertRaises(NotValid):
                store.uses((number, 4))
        self.assertEqual([store.uses((number, 4)) for number in (9, 8, 10, 4, 0)], [0, 0, 0, 1, 1])
        self.assertEqual(state_of(store), before)

    def test_dropping_does_not_look_into_the_block(self):
        store = store_with(9)
        child = store.make([1, 0, 9, 4] + [0] * 28)
        parent = store.make([2, 1, 10, 4, 1, 1, 0, 9, 4] + [0] * 23)
        self.assertEqual(store.drop(parent), 0)
        self.assertEqual((store.uses(child), store.new_blocks()), (1, [9]))

    def test_the_disk_is_never_written(self):
        store = store_with(9)
        store.disk.write(36, [5] * 8)
        image, lasting = store.disk.image(), store.disk.lasting()
        pointer = store.make(words_of(1))
        store.write(pointer, words_of(2))
        saved = store.saved()
        store.share(pointer)
        store.make(words_of(3))
        store.restore(saved)
        store.drop(pointer)
        store.drop((8, 1))
        store.use_table((9, 4))
        self.assertEqual((store.disk.image(), store.disk.lasting()), (image, lasting))
        self.assertEqual(store.disk.waiting(), [(36, [5] * 8)])

    def test_without_power_memory_is_still_read(self):
        store = store_with(9)
        pointer = store.make(words_of(1))
        store.disk.fail_after(0)
        with self.assertRaises(PowerOff):
            store.disk.flush()
        self.assertEqual(store.read(pointer), words_of(1))
        with self.assertRaises(PowerOff):
            store.read((8, 1))
        with self.assertRaises(NotValid):
            store.read((96, 1))


class SavedTest(unittest.TestCase):

    def change(self, store):
        """Change all that a store has, and return what the methods returned."""
        found = [store.make(words_of(5)), store.make(words_of(6)), store.drop((9, 4)), store.drop((8, 1))]
        found += [store.share((5, 1)), store.write((10, 4), words_of(7)), store.make(words_of(8)), store.new_blocks()]
        store.use_table((10, 4))
        return found + [state_of(store)]

    def test_changes_are_undone_and_made_again(self):
        store = store_with(9)
        store.make(words_of(1))
        store.make(words_of(2))
        store.use_table((9, 4))
        before = state_of(store)
        saved = store.saved()
        kept = copy.deepcopy(saved)
        first = self.change(store)
        self.assertNotEqual(state_of(store), before)
        for _ in range(3):
            store.restore(saved)
            self.assertEqual(state_of(store), before)
            self.assertEqual(store.table, (9, 4))
            self.assertEqual(self.change(store), first)
            self.assertEqual(saved, kept)
        store.restore(saved)
        store.restore(saved)
        self.assertEqual(state_of(store), before)

    def test_the_contents_of_blocks_that_were_dropped_come_back(self):
        store = store_with(9)
        pointer = store.make(words_of(1))
        saved = store.saved()
        store.drop(pointer)
        self.assertEqual(store.read(pointer), ZEROS)
        store.restore(saved)
        self.assertEqual((store.read(pointer), store.is_new(pointer)), (words_of(1), True))

    def test_two_saved_states(self):
        store = store_with(9)
        states, saved = [], []
        for number in range(4):
            states.append(state_of(store))
            saved.append(store.saved())
            store.make(words_of(number))
            store.use_table((9 + number, 4))
        for at in (2, 0, 3, 1):
            store.restore(saved[at])
            self.assertEqual(state_of(store), states[at])

    def test_the_reserve_is_not_part_of_it(self):
        store = store_with(9, reserve=20)
        saved = store.saved()
        store.use_reserve(60)
        store.restore(saved)
        self.assertEqual(store.reserve, 60)

    def test_the_fields_keep_their_objects(self):
        store = store_with(9)
        disk, head, space = store.disk, store.head, store.space
        saved = store.saved()
        store.make(ZEROS)
        store.restore(saved)
        self.assertTrue(store.disk is disk and store.head is head and store.space is space)
        self.assertEqual(space.free(), 87)


if __name__ == "__main__":
    unittest.main()
