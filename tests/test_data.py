"""Data of files: points [53] to [61], and [32] and [36] for units that are shared."""

import random
import unittest

from helpers import (
    ChangeChecks, checked_items, commit, counted_uses, erase_by_hand, fill, left_by, resize_by_hand, share_by_hand,
    state_of, store_with, uses_of, write_by_hand, written)
from laminae import data
from laminae.data import (
    count_units, erase_inode, list_units, read_range, set_length, share_range, units_after_share, units_after_write,
    write_range)
from laminae.errors import Missing, NoSpace, TooLong, WrongKind
from laminae.inodes import DIRECTORY, FILE, add_inode, list_inodes, make_tree, read_record
from laminae.trees import put, take

ENDS = (0, 1, 31, 32, 33, 63, 64, 65, 95, 96, 97)
NEAR_THE_GREATEST = (2015, 2016, 2017, 2047, 2048)


def numbers(many, first=1):
    """Cells of which none is 0, and no two are alike."""
    return list(range(first, first + many))


def units_in(cells):
    """The units of a file with these cells, as `list_units` returns them."""
    padded = cells + [0] * (-len(cells) % 32)
    units = [(unit, padded[32 * unit:32 * unit + 32]) for unit in range(len(padded) // 32)]
    return [(unit, part) for unit, part in units if any(part)]


def blocks_of(store, root, inode):
    """A dict from each unit of a file to its block, read without the module data."""
    items = checked_items(store, root)[0]
    return {key[2]: value[0] for key, value in items if key[:2] == (inode, 3)}


class DataCase(ChangeChecks, unittest.TestCase):

    def with_files(self, blocks=256):
        """A store, and the root of a tree with the empty files 2 and 3 and the directory 4."""
        store = store_with(5, blocks=blocks)
        root = make_tree(store, 9)
        for kind, second in ((FILE, 1), (FILE, 0), (DIRECTORY, 1)):
            root, _ = add_inode(store, root, kind, second, 7)
        return store, root

    def with_cells(self, *contents, blocks=256, settled=True):
        """A store whose files 2, 3 .. have these cells."""
        store, root = self.with_files(blocks)
        for inode, cells in enumerate(contents, 2):
            root = write_range(store, root, inode, 0, cells)
        return commit(store) if settled else store, root

    def assert_file(self, store, root, inode, cells):
        """Check everything that can be seen of a file."""
        self.assertEqual(read_range(store, root, inode, 0, 2048), cells)
        self.assertEqual(read_record(store, root, inode)[2], len(cells))
        self.assertEqual(list_units(store, root, inode), units_in(cells))
        self.assertEqual(count_units(store, root, inode), len(units_in(cells)))
        self.assertEqual(list(blocks_of(store, root, inode)), [unit for unit, _ in units_in(cells)])
        for key, value in checked_items(store, root)[0]:
            if key[1] == 3:
                self.assertEqual(value[2:], (0, 0))
                self.assertIn([key[2], store.read(value[:2])], [list(row) for row in list_units(store, root, key[0])])

    def assert_uses(self, store, *roots):
        """Check the uses of all blocks, if these trees are all that leads into the disk."""
        self.assertEqual(uses_of(store), counted_uses(store, [(root, True) for root in roots]))


class ExampleTest(DataCase):

    def test_the_example_of_the_interface(self):
        store, root = self.with_files()
        root = write_range(store, root, 2, 40, [7])
        self.assertEqual(read_record(store, root, 2), (1, 1, 41, 7))
        self.assertEqual(list_units(store, root, 2), [(1, [0] * 8 + [7] + [0] * 23)])
        self.assertEqual(read_range(store, root, 2, 38, 10), [0, 0, 7])
        root = write_range(store, root, 2, 40, [0])
        self.assertEqual((read_record(store, root, 2), list_units(store, root, 2)), ((1, 1, 41, 7), []))

    def test_the_constants(self):
        self.assertEqual((data.UNIT, data.MAX_CELLS), (32, 2048))


class ReadTest(DataCase):

    def test_positions_and_counts(self):
        for length in (0, 1, 31, 32, 33, 64, 70, 200):
            cells = numbers(length)
            store, root = self.with_cells(cells)
            before = state_of(store)
            for start in (*ENDS, length - 1, length, length + 1, 2047, 2048, 5000):
                for count in (0, 1, 2, 31, 32, 33, 64, 100, 2048):
                    if start >= 0:
                        self.assertEqual(read_range(store, root, 2, start, count), cells[start:start + count])
            self.assertEqual(state_of(store), before)

    def test_2048_cells(self):
        cells = numbers(2048)
        store, root = self.with_cells(cells)
        self.assert_file(store, root, 2, cells)
        for start in NEAR_THE_GREATEST:
            for count in (0, 1, 32, 33, 2048):
                self.assertEqual(read_range(store, root, 2, start, count), cells[start:start + count])
        self.assertEqual(count_units(store, root, 2), 64)

    def test_absent_units_are_read_as_zeros(self):
        cells = numbers(32) + [0] * 64 + numbers(5) + [0] * 60
        store, root = self.with_cells(cells)
        self.assertEqual([unit for unit, _ in list_units(store, root, 2)], [0, 3])
        for start in range(0, len(cells), 7):
            self.assertEqual(read_range(store, root, 2, start, 50), cells[start:start + 50])

    def test_great_words_and_new_lists(self):
        store, root = self.with_cells([10 ** 30, 0, 10 ** 100])
        found = read_range(store, root, 2, 0, 9)
        self.assertEqual(found, [10 ** 30, 0, 10 ** 100])
        found[0] = 1
        rows = list_units(store, root, 2)
        rows[0][1][0] = 2
        self.assertEqual(read_range(store, root, 2, 0, 1), [10 ** 30])


class WriteTest(DataCase):

    def test_positions_and_numbers_of_cells(self):
        for length in (0, 1, 32, 40, 64):
            store, root = self.with_cells(numbers(length, 1000), settled=length % 3 == 1)
            saved = store.saved()
            for start in (*ENDS, *NEAR_THE_GREATEST):
                for many in (1, 2, 31, 32, 33, 65):
                    if start + many > 2048:
                        continue
                    given = numbers(many)
                    changed = write_range(store, root, 2, start, given)
                    self.assertEqual(given, numbers(many))
                    self.assert_file(store, changed, 2, written(numbers(length, 1000), start, given))
                    self.assert_file(store, changed, 3, [])
                    self.assert_uses(store, changed)
                    store.restore(saved)

    def test_no_cells_change_nothing(self):
        store, root = self.with_cells(numbers(40))
        before = state_of(store)
        for start in (0, 39, 40, 41, 2047, 2048, 2049, 10 ** 30):
            self.assertEqual(write_range(store, root, 2, start, []), root)
            self.assertEqual(units_after_write(store, root, 2, start, []), 2)
        self.assertEqual(state_of(store), before)

    def test_cells_behind_the_end(self):
        store, root = self.with_cells(numbers(5))
        root = write_range(store, root, 2, 100, [7, 8])
        self.assert_file(store, root, 2, numbers(5) + [0] * 95 + [7, 8])
        root = write_range(store, root, 2, 110, [0])
        self.assert_file(store, root, 2, numbers(5) + [0] * 95 + [7, 8] + [0] * 9)
        root = write_range(store, root, 3, 2047, [0])
        self.assert_file(store, root, 3, [0] * 2048)

    def test_zeros_make_units_absent(self):
        store, root = self.with_cells(numbers(96))
        root = write_range(store, root, 2, 32, [0] * 31)
        self.assertEqual(count_units(store, root, 2), 3)
        root = write_range(store, root, 2, 63, [0])
        self.assert_file(store, root, 2, numbers(32) + [0] * 32 + numbers(32, 65))
        root = write_range(store, root, 2, 0, [0] * 96)
        self.assert_file(store, root, 2, [0] * 96)
        self.assert_uses(store, root)
        root = write_range(store, root, 2, 33, [5])
        self.assert_file(store, root, 2, [0] * 33 + [5] + [0] * 62)

    def test_a_greater_length_after_a_smaller_one(self):
        for length in (0, 1, 31, 32, 33, 50):
            store, root = self.with_cells(numbers(70))
            root = set_length(store, root, 2, length)
            self.assert_file(store, root, 2, numbers(length))
            root = set_length(store, root, 2, 70)
            self.assert_file(store, root, 2, numbers(length) + [0] * (70 - length))
            root = set_length(store, root, 2, length)
            root = write_range(store, root, 2, 69, [1])
            self.assert_file(store, root, 2, numbers(length) + [0] * (69 - length) + [1])
            self.assert_uses(store, root)

    def test_the_items_follow_from_the_cells_alone(self):
        cells = numbers(20) + [0] * 30 + numbers(30)
        store, root = self.with_cells(cells)
        root = write_range(store, root, 3, 0, numbers(2048))
        root = set_length(store, root, 3, 80)
        root = write_range(store, root, 3, 0, cells)
        self.assertEqual(list_units(store, root, 3), list_units(store, root, 2))


class LengthTest(DataCase):

    def test_lengths(self):
        for before in (0, 1, 32, 70, 2048):
            cells = numbers(before)
            store, root = self.with_cells(cells)
            saved = store.saved()
            for length in (*ENDS, before, *NEAR_THE_GREATEST):
                changed = set_length(store, root, 2, length)
                self.assert_file(store, changed, 2, cells[:length] + [0] * (length - before))
                self.assert_uses(store, changed)
                store.restore(saved)

    def test_the_same_length_changes_nothing(self):
        for length in (0, 1, 32, 70, 2048):
            store, root = self.with_cells(numbers(length))
            before = state_of(store)
            self.assertEqual(set_length(store, root, 2, length), root)
            self.assertEqual(state_of(store), before)

    def test_a_greater_length_writes_the_record_alone(self):
        store, root = self.with_cells(numbers(40))

        def by_hand(store, root, inode, length):
            return put(store, root, (inode, 1, 0), (1, 1, length, 7))

        blocks = blocks_of(store, root, 2)
        for length in (41, 64, 65, 2048):
            root = self.assert_same_change(store, set_length, by_hand, root, 2, length)
            self.assertEqual(blocks_of(store, root, 2), blocks)


class BlockTest(DataCase):

    def test_a_changed_unit_has_another_block_and_others_keep_theirs(self):
        for settled in (False, True):
            store, root = self.with_cells(numbers(160), settled=settled)
            before = blocks_of(store, root, 2)
            for start, cells, changed in (
                    (40, [1], [1]), (31, [7, 7], [0, 1]), (64, [9] * 64, [2, 3]), (159, [4], [4]), (0, [5] * 160, None),
                    (96, [0] * 32, [3]), (96, [1] * 33, [3, 4])):
                root = write_range(store, root, 2, start, cells)
                after = blocks_of(store, root, 2)
                changed = list(range(5)) if changed is None else changed
                for unit in range(5):
                    kept = before.get(unit) == after.get(unit)
                    self.assertEqual(kept, unit not in changed, (start, unit))
                before = after

    def test_cells_that_are_there_already_keep_the_blocks(self):
        store, root = self.with_cells(numbers(100))
        before = blocks_of(store, root, 2)
        root = write_range(store, root, 2, 0, numbers(40) + [9] + numbers(59, 42))
        after = blocks_of(store, root, 2)
        self.assertEqual([unit for unit in range(4) if before[unit] != after[unit]], [1])
        root = write_range(store, root, 2, 96, numbers(4, 97) + [0] * 8)
        self.assertEqual((blocks_of(store, root, 2), read_record(store, root, 2)[2]), (after, 108))

    def test_nothing_changes_if_no_cell_and_not_the_length_changes(self):
        cells = numbers(40) + [0] * 60
        store, root = self.with_cells(cells)
        store.use_reserve(256)
        before = state_of(store)
        for start, many in ((0, 100), (0, 1), (39, 2), (64, 36), (99, 1), (5, 60)):
            self.assertEqual(write_range(store, root, 2, start, cells[start:start + many]), root)
        self.assertEqual(state_of(store), before)

    def test_a_unit_that_is_written_twice_changes_its_block_twice(self):
        store, root = self.with_cells(settled=False)
        root = write_range(store, root, 2, 0, [1])
        first = blocks_of(store, root, 2)[0]
        root = write_range(store, root, 2, 0, [2])
        second = blocks_of(store, root, 2)[0]
        self.assertNotEqual(first, second)
        self.assertTrue(store.space.is_free(first))
        root = write_range(store, root, 2, 0, [3])
        self.assertEqual(blocks_of(store, root, 2)[0], first)

    def test_the_block_comes_first_and_then_the_item(self):
        store, root = self.with_cells(numbers(64), numbers(64))
        least = store.space.least_free()
        changed = write_range(store, root, 2, 0, [99])
        self.assertEqual((blocks_of(store, changed, 2)[0], changed[0]), (least, least + 1))

    def test_an_absent_unit_loses_its_item_first(self):
        store, root = self.with_cells(numbers(96), settled=False)
        given_up, drop = [], store.drop

        def noted(pointer):
            given_up.append(pointer[0])
            return drop(pointer)

        block = blocks_of(store, root, 2)[1]
        store.drop = noted
        write_range(store, root, 2, 32, [0] * 32)
        self.assertEqual(given_up[-1], block)

    def test_changes_by_hand(self):
        for seed in range(6):
            chosen = random.Random(seed)
            store, root = self.with_cells(numbers(300), numbers(90))
            for at in range(40):
                inode = chosen.choice((2, 3))
                if chosen.random() < 0.7:
                    start, many = chosen.randrange(400), chosen.choice((1, 3, 32, 64, 100))
                    cells = [chosen.choice((0, 0, 0, at))] * many
                    root = self.assert_same_change(store, write_range, write_by_hand, root, inode, start, cells)
                else:
                    length = chosen.choice((0, 10, 32, 64, 100, 200, 333))
                    root = self.assert_same_change(store, set_length, resize_by_hand, root, inode, length)
                self.assert_uses(store, root)
                store = commit(store) if at % 5 == 0 else store

    def test_other_orders_would_take_other_blocks(self):
        store, root = self.with_cells(numbers(64), numbers(64))

        def item_first(store, root, inode, start, cells):
            pointer = store.next_pointer()
            root = put(store, root, (2, 3, 0), (*pointer, 0, 0))
            store.make(cells)
            return root

        self.assertNotEqual(
            left_by(store, item_first, root, 2, 0, [5] * 32), left_by(store, write_by_hand, root, 2, 0, [5] * 32))


class RefusalTest(DataCase):

    def test_no_such_inode_and_directories_come_first(self):
        store, root = self.with_cells(numbers(40))
        for inode, error in ((0, Missing), (5, Missing), (10 ** 12, Missing), (1, WrongKind), (4, WrongKind)):
            for start in (0, 2048, 5000):
                self.assert_refused(store, error, read_range, root, inode, start, 1)
                for cells in ([], [1], [1] * 3000):
                    self.assert_refused(store, error, write_range, root, inode, start, cells)
                    self.assert_refused(store, error, units_after_write, root, inode, start, cells)
                self.assert_refused(store, error, set_length, root, inode, start)
            self.assert_refused(store, error, list_units, root, inode)
            self.assert_refused(store, error, count_units, root, inode)

    def test_files_that_would_be_too_long(self):
        store, root = self.with_cells(numbers(40))
        for start, many in ((2048, 1), (2047, 2), (2017, 32), (0, 2049), (5000, 1), (1, 2048)):
            self.assert_refused(store, TooLong, write_range, root, 2, start, [1] * many)
            self.assert_refused(store, TooLong, write_range, root, 2, start, [0] * many)
            self.assert_refused(store, TooLong, units_after_write, root, 2, start, [1] * many)
        for length in (2049, 5000):
            self.assert_refused(store, TooLong, set_length, root, 2, length)
        store.use_reserve(256)
        self.assert_refused(store, TooLong, write_range, root, 2, 2048, [1])
        self.assert_refused(store, TooLong, set_length, root, 2, 2049)

    def test_the_reserve_of_the_store(self):
        store, root = self.with_cells(numbers(64), blocks=160)
        self.assertGreater(self.assert_needs_room(store, write_range, root, 2, 0, numbers(300, 5)), 10)
        for change, given in (
                (write_range, (2, 0, [0] * 64)), (write_range, (2, 64, [0])), (set_length, (2, 50)),
                (set_length, (2, 0)), (set_length, (2, 70)), (share_range, (2, 0, 3, 0, 2)), (erase_inode, (2,)),
                (erase_inode, (4,))):
            self.assertGreater(self.assert_needs_room(store, change, root, *given), 1)

    def test_no_space_in_the_middle_of_a_write(self):
        store, root = self.with_cells(numbers(64))
        fill(store, 12)
        saved, before = store.saved(), state_of(store)
        with self.assertRaises(NoSpace):
            write_range(store, root, 2, 0, numbers(1000, 7))
        self.assertNotEqual(state_of(store), before)
        store.restore(saved)
        self.assertEqual(state_of(store), before)
        self.assert_file(store, root, 2, numbers(64))


class CountTest(DataCase):

    def test_units_after_a_write(self):
        chosen = random.Random(5)
        store, root = self.with_cells(numbers(40) + [0] * 100 + numbers(9))
        saved, before = store.saved(), state_of(store)
        for _ in range(150):
            start, many = chosen.randrange(300), chosen.choice((1, 2, 31, 32, 33, 64, 96))
            cells = [chosen.choice((0, 0, 5))] * many
            many = units_after_write(store, root, 2, start, cells)
            self.assertEqual(state_of(store), before)
            self.assertEqual(many, count_units(store, write_range(store, root, 2, start, cells), 2))
            store.restore(saved)
        self.assertEqual(units_after_write(store, root, 2, 0, [0] * 40), 1)
        self.assertEqual(units_after_write(store, root, 2, 2016, [1] * 32), 4)
        self.assertEqual(units_after_write(store, root, 2, 2016, [0] * 32), 3)
        self.assertEqual(units_after_write(store, root, 2, 0, numbers(2048)), 64)

    def test_units_after_a_share(self):
        chosen = random.Random(6)
        source, target = numbers(40) + [0] * 100 + numbers(50), [0] * 32 + numbers(100)
        store, root = self.with_cells(source, target)
        saved, before = store.saved(), state_of(store)
        for _ in range(200):
            inodes = chosen.choice(((2, 3), (3, 2), (2, 2), (3, 3)))
            first, at, units = chosen.randrange(8), chosen.randrange(8), chosen.randrange(6)
            given = (inodes[0], first, inodes[1], at, units)
            many = units_after_share(store, root, *given)
            self.assertEqual(state_of(store), before)
            self.assertEqual(many, count_units(store, share_range(store, root, *given), inodes[1]))
            store.restore(saved)


class ShareTest(DataCase):

    def cells_after(self, source, first, target, at, units):
        """The cells of the target after a share."""
        given = (source + [0] * 4096)[32 * first:32 * (first + units)]
        return written(target, 32 * at, given)

    def assert_share(self, contents, source, first, target, at, units):
        """Share units of files with these cells, check all that is seen, and return the store and the root."""
        store, root = self.with_cells(*contents)
        blocks = blocks_of(store, root, source)
        old = blocks_of(store, root, target)
        root = self.assert_same_change(store, share_range, share_by_hand, root, source, first, target, at, units)
        expected = list(contents)
        expected[target - 2] = self.cells_after(contents[source - 2], first, contents[target - 2], at, units)
        for inode, cells in enumerate(expected, 2):
            self.assert_file(store, root, inode, cells)
        after = blocks_of(store, root, target)
        for unit in range(64):
            shared = at <= unit < at + units
            self.assertEqual(after.get(unit), blocks.get(unit - at + first) if shared else old.get(unit))
        self.assert_uses(store, root)
        return store, root

    def test_between_two_files(self):
        source = numbers(40) + [0] * 60 + numbers(28, 500)
        for target in ([], numbers(10, 900), numbers(64, 900), numbers(200, 900), [0] * 70):
            for first, at, units in ((0, 0, 1), (0, 0, 4), (1, 0, 3), (0, 2, 2), (3, 0, 1), (0, 60, 4), (2, 1, 9)):
                self.assert_share([source, target], 2, first, 3, at, units)

    def test_within_one_file(self):
        cells = numbers(150)
        for first, at, units in (
                (0, 1, 4), (1, 0, 4), (0, 2, 3), (2, 0, 3), (0, 0, 5), (1, 1, 2), (0, 5, 5), (3, 1, 9)):
            self.assert_share([cells, []], 2, first, 2, at, units)

    def test_absent_units_also_behind_the_end_of_the_source(self):
        store, root = self.assert_share([numbers(32) + [0] * 64, numbers(128, 900)], 2, 0, 3, 0, 3)
        self.assertEqual(list(blocks_of(store, root, 3)), [0, 3])
        store, root = self.assert_share([numbers(32), numbers(128, 900)], 2, 1, 3, 1, 2)
        self.assertEqual(list(blocks_of(store, root, 3)), [0, 3])
        store, root = self.assert_share([[], []], 2, 0, 3, 0, 64)
        self.assertEqual(read_range(store, root, 3, 0, 2048), [0] * 2048)
        store, root = self.assert_share([numbers(2048), numbers(64)], 2, 63, 3, 0, 2)
        self.assertEqual(list(blocks_of(store, root, 3)), [0])

    def test_units_that_the_target_has_already(self):
        store, root = self.assert_share([numbers(96), numbers(10, 900)], 2, 0, 3, 0, 3)
        before = state_of(store)
        store.use_reserve(256)
        self.assertEqual(share_range(store, root, 2, 0, 3, 0, 3), root)
        self.assertEqual(share_range(store, root, 3, 1, 2, 1, 2), root)
        self.assertEqual(share_range(store, root, 2, 1, 2, 1, 2), root)
        store.use_reserve(0)
        self.assertEqual(state_of(store), before)
        root = share_range(store, root, 2, 0, 3, 1, 2)
        self.assert_file(store, root, 3, numbers(32) + numbers(64))
        self.assert_uses(store, root)

    def test_the_uses_of_each_block(self):
        store, root = self.assert_share([numbers(64), []], 2, 0, 3, 0, 2)
        first, second = blocks_of(store, root, 2).values()
        self.assertEqual((store.uses((first, 1)), store.uses((second, 1))), (2, 2))
        root = share_range(store, root, 2, 0, 3, 5, 1)
        self.assertEqual(store.uses((first, 1)), 3)
        root = write_range(store, root, 2, 0, [77])
        self.assertEqual((store.uses((first, 1)), store.uses((second, 1))), (2, 2))
        self.assert_file(store, root, 3, numbers(64) + [0] * 96 + numbers(32))
        self.assert_file(store, root, 2, [77] + numbers(63, 2))
        root = set_length(store, root, 3, 40)
        self.assertEqual((store.uses((first, 1)), store.uses((second, 1))), (1, 1))
        self.assert_file(store, root, 2, [77] + numbers(63, 2))
        root = erase_inode(store, root, 2)
        self.assertEqual((store.uses((first, 1)), store.uses((second, 1))), (1, 0))
        self.assert_file(store, root, 3, numbers(40))
        root = erase_inode(store, root, 3)
        self.assertEqual(store.uses((first, 1)), 0)
        self.assert_uses(store, root)

    def test_no_units_change_nothing(self):
        store, root = self.with_cells(numbers(40), numbers(40))
        store.use_reserve(256)
        before = state_of(store)
        for first, at in ((0, 0), (5, 63), (64, 64), (65, 65), (1000, 1000), (0, 10 ** 20), (10 ** 20, 0)):
            for source, target in ((2, 3), (2, 2)):
                self.assertEqual(share_range(store, root, source, first, target, at, 0), root)
                self.assertEqual(units_after_share(store, root, source, first, target, at, 0), 2)
        self.assertEqual(state_of(store), before)

    def test_the_length_of_the_target(self):
        for length, at, units, expected in (
                (0, 0, 1, 32), (31, 0, 1, 32), (32, 0, 1, 32), (33, 0, 1, 33), (10, 3, 2, 160), (2048, 62, 2, 2048),
                (5, 63, 1, 2048), (200, 1, 1, 200)):
            store, root = self.with_cells(numbers(64), numbers(length, 900))
            root = share_range(store, root, 2, 0, 3, at, units)
            self.assertEqual(read_record(store, root, 3), (1, 0, expected, 7))
            self.assertEqual(read_record(store, root, 2), (1, 1, 64, 7))

    def test_the_record_is_written_only_if_the_length_is_less(self):
        store, root = self.with_cells(numbers(64), numbers(64, 900))

        def by_hand(store, root, *_):
            pointer = (blocks_of(store, root, 2)[0], 4)
            store.share(pointer)
            old = (blocks_of(store, root, 3)[1], 4)
            root = put(store, root, (3, 3, 1), (*pointer, 0, 0))
            store.drop(old)
            return root

        self.assert_same_change(store, share_range, by_hand, root, 2, 0, 3, 1, 1)

    def test_64_units(self):
        store, root = self.with_cells(numbers(64), numbers(64, 900))
        for at, units in ((64, 1), (63, 2), (0, 65), (1, 64), (1000, 1)):
            for function in (share_range, units_after_share):
                self.assert_refused(store, TooLong, function, root, 2, 0, 3, at, units)
                self.assert_refused(store, TooLong, function, root, 2, 63, 2, at, units)
        for at, units in ((63, 1), (0, 64), (62, 2), (1, 63)):
            self.assert_share([numbers(64), numbers(64, 900)], 2, 0, 3, at, units)

    def test_the_order_of_the_exceptions(self):
        store, root = self.with_cells(numbers(40), numbers(40))
        inodes = {Missing: (0, 5, 99), WrongKind: (1, 4)}
        for function in (share_range, units_after_share):
            for at, units in ((0, 1), (63, 2), (0, 0), (99, 0)):
                for error, wrong in inodes.items():
                    for inode in wrong:
                        for other in (2, 3, 4, 5):
                            self.assert_refused(store, error, function, root, inode, 0, other, at, units)
                        self.assert_refused(store, error, function, root, 2, 0, inode, at, units)
        store.use_reserve(256)
        self.assert_refused(store, TooLong, share_range, root, 2, 0, 3, 64, 1)

    def test_many_shares_against_lists(self):
        for seed in range(5):
            chosen = random.Random(seed)
            contents = [numbers(200, 1000 * seed + 1), [0] * 50 + numbers(150)]
            store, root = self.with_cells(*contents)
            for at in range(60):
                source, target = chosen.choice((2, 3)), chosen.choice((2, 3))
                action = chosen.randrange(4)
                if action < 2:
                    given = (source, chosen.randrange(9), target, chosen.randrange(9), chosen.randrange(7))
                    root = self.assert_same_change(store, share_range, share_by_hand, root, *given)
                    _, first, _, place, units = given
                    contents[target - 2] = self.cells_after(
                        contents[source - 2], first, contents[target - 2], place, units)
                elif action == 2:
                    start, cells = chosen.randrange(300), [chosen.randrange(2) * at] * chosen.choice((1, 32, 70))
                    root = self.assert_same_change(store, write_range, write_by_hand, root, target, start, cells)
                    contents[target - 2] = written(contents[target - 2], start, cells)
                else:
                    length = chosen.randrange(300)
                    root = self.assert_same_change(store, set_length, resize_by_hand, root, target, length)
                    before = contents[target - 2]
                    contents[target - 2] = before[:length] + [0] * (length - len(before))
                for inode in (2, 3):
                    self.assert_file(store, root, inode, contents[inode - 2])
                self.assert_uses(store, root)
                store = commit(store) if at % 7 == 0 else store


class EraseTest(DataCase):

    def test_a_file_an_orphan_and_a_directory(self):
        store, root = self.with_cells(numbers(100), numbers(300), settled=False)
        for inode, left in ((2, [1, 3, 4]), (3, [1, 4]), (4, [1])):
            root = self.assert_same_change(store, erase_inode, erase_by_hand, root, inode)
            self.assertEqual([found for found, _ in list_inodes(store, root)], left)
            self.assertEqual({key[0] for key, _ in checked_items(store, root)[0]}, set(left))
            self.assert_uses(store, root)
        self.assertEqual((len(store.new_blocks()), store.free()), (1, 250))

    def test_by_hand_after_a_commit(self):
        for contents in ((numbers(2048), [0] * 64 + numbers(500)), ([], numbers(40)), ([], numbers(200))):
            for inode in (2, 3, 4):
                store, root = self.with_cells(*contents)
                root = self.assert_same_change(store, erase_inode, erase_by_hand, root, inode)
                self.assert_uses(store, root)
                self.assert_refused(store, Missing, erase_inode, root, inode)

    def test_the_record_goes_last(self):
        store, root = self.with_cells([], numbers(40))

        def record_first(store, root, inode):
            root, _ = take(store, root, (inode, 1, 0))
            for unit in (0, 1):
                root, value = take(store, root, (inode, 3, unit))
                store.drop(value[:2])
            return root

        self.assertNotEqual(left_by(store, record_first, root, 3), left_by(store, erase_by_hand, root, 3))
        self.assert_same_change(store, erase_inode, erase_by_hand, root, 3)

    def test_no_such_inode(self):
        store, root = self.with_cells(numbers(100))
        for inode in (0, 5, 10 ** 12):
            self.assert_refused(store, Missing, erase_inode, root, inode)
        store.use_reserve(256)
        self.assert_refused(store, Missing, erase_inode, root, 5)

    def test_the_other_items_stay(self):
        store, root = self.with_cells(numbers(100), numbers(70))
        root = put(store, root, (1, 2, 40 ** 10), (3, 1, 0, 0))
        root = erase_inode(store, root, 2)
        self.assert_file(store, root, 3, numbers(70))
        self.assertEqual([key for key, _ in checked_items(store, root)[0] if key[0] == 2], [])
        root, value = take(store, root, (1, 2, 40 ** 10))
        self.assertEqual(value, (3, 1, 0, 0))


class SharedTreeTest(DataCase):

    def test_changing_one_tree_leaves_all_cells_of_the_other_one(self):
        for settled in (False, True):
            first, second = numbers(200), numbers(100, 500)
            store, root = self.with_cells(first, second, settled=settled)
            store.share(root)
            blocks = {number: store.read((number, 0)) for number in range(5, 256) if store.space.uses(number)}
            other = write_range(store, root, 2, 40, [0] * 60)
            self.assert_uses(store, root, other)
            other = share_range(store, other, 3, 0, 2, 5, 3)
            other = set_length(store, other, 3, 10)
            self.assert_uses(store, root, other)
            self.assert_file(store, root, 2, first)
            self.assert_file(store, root, 3, second)
            self.assert_file(store, other, 3, second[:10])
            other = erase_inode(store, other, 3)
            other = erase_inode(store, other, 2)
            self.assert_uses(store, root, other)
            self.assert_file(store, root, 2, first)
            self.assert_file(store, root, 3, second)
            self.assertEqual({number: store.read((number, 0)) for number in blocks}, blocks)

    def test_many_changes_of_three_trees(self):
        for seed in range(3):
            chosen = random.Random(seed)
            store, root = self.with_cells(numbers(150), numbers(50))
            trees = [(root, [numbers(150), numbers(50)]) for _ in range(3)]
            store.share(root)
            store.share(root)
            for at in range(50):
                which, inode = chosen.randrange(3), chosen.choice((2, 3))
                root, contents = trees[which]
                start, cells = chosen.randrange(200), [chosen.randrange(2) * at] * chosen.choice((1, 30, 64))
                if chosen.random() < 0.3:
                    root = share_range(store, root, 2, 0, 3, start // 32, 2)
                    given = (contents[0] + [0] * 64)[:64]
                    changed = [contents[0], written(contents[1], start // 32 * 32, given)]
                else:
                    root = write_range(store, root, inode, start, cells)
                    changed = list(contents)
                    changed[inode - 2] = written(contents[inode - 2], start, cells)
                trees[which] = (root, changed)
                for root, contents in trees:
                    self.assert_file(store, root, 2, contents[0])
                    self.assert_file(store, root, 3, contents[1])
                self.assert_uses(store, *[root for root, _ in trees])
                store = commit(store) if at % 6 == 0 else store


if __name__ == "__main__":
    unittest.main()
