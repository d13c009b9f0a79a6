"""Inodes: points [43] to [47] and [49]."""

import unittest

from helpers import ChangeChecks, checked_items, commit, counted_uses, state_of, store_with, uses_of
from laminae import inodes
from laminae.errors import Missing
from laminae.inodes import (
    DIRECTORY, FILE, add_inode, charge_of, list_inodes, list_orphans, make_tree, next_inode, read_record, set_owner_of,
    write_record)
from laminae.trees import empty_tree, put, take

GREAT = 10 ** 12
# Records at the ends of their ranges.
RECORDS = [
    (FILE, 0, 0, 0), (FILE, 60, 2048, 255), (FILE, 1, 1, 1), (FILE, 0, 2048, 0), (FILE, 60, 0, 255),
    (DIRECTORY, 1, 0, 0), (DIRECTORY, GREAT, 100, 255), (DIRECTORY, 1, 100, 7)]


def put_all(store, root, items):
    """Put these items into a tree."""
    for key, value in items:
        root = put(store, root, key, value)
    return root


def records_at(store, root):
    """The inodes and records of a tree, read without the module inodes."""
    return [(key[0], value) for key, value in checked_items(store, root)[0] if key[1] == 1]


class InodeCase(ChangeChecks, unittest.TestCase):

    def crowded(self, blocks=96):
        """A store with a tree in which other items stand between the records: its root, and its records."""
        store = store_with(5, blocks=blocks)
        root = make_tree(store, 3)
        records = {1: (2, 1, 2, 3), 4: RECORDS[1], 6: RECORDS[0], 7: (2, 1, 0, 9), GREAT: RECORDS[4]}
        root = put_all(store, root, [((inode, 1, 0), record) for inode, record in records.items()])
        root = put_all(store, root, [((1, 2, 40 ** 10), (4, 1, 0, 0)), ((1, 2, 7 * 40 ** 10), (7, 2, 0, 0))])
        for inode, unit in ((4, 0), (4, 1), (4, 63), (6, 5), (GREAT, 0), (GREAT, 62)):
            root = put(store, root, (inode, 3, unit), (*store.make([inode, unit] * 16), 0, 0))
        return store, root, records


class ConstantsTest(unittest.TestCase):

    def test_the_constants(self):
        names = ("FILE", "DIRECTORY", "ROOT", "MAX_LINKS", "MAX_ENTRIES")
        self.assertEqual([vars(inodes)[name] for name in names], [1, 2, 1, 60, 100])


class TreeTest(InodeCase):

    def test_the_example_of_the_interface(self):
        store = store_with(5)
        root = make_tree(store, 3)
        self.assertEqual((list_inodes(store, root), next_inode(store, root)), ([(1, (2, 1, 0, 3))], 2))
        root, inode = add_inode(store, root, FILE, 0, 3)
        self.assertEqual((inode, list_orphans(store, root)), (2, [2]))

    def test_a_new_tree(self):
        for owner in (0, 3, 255):
            store = store_with(9)
            root = make_tree(store, owner)
            self.assertEqual(root, (9, 4))
            self.assertEqual(checked_items(store, root), ([((1, 1, 0), (2, 1, 0, owner))], 1))
            self.assertEqual((store.new_blocks(), store.uses(root), list_orphans(store, root)), ([9], 1, []))
            self.assertEqual(charge_of(store, root, 1), 1)

    def test_the_table_is_not_changed(self):
        store = store_with(9)
        root = make_tree(store, 1)
        root, _ = add_inode(store, root, FILE, 0, 3)
        set_owner_of(store, root, 1, 9)
        self.assertEqual(store.table, (5, 1))


class RecordTest(InodeCase):

    def test_records_are_read_as_they_were_written(self):
        store, root, records = self.crowded()
        for inode in (1, 4, 8, 99, GREAT - 1, GREAT + 1):
            for record in RECORDS:
                root = write_record(store, root, inode, record)
                records[inode] = record
                self.assertEqual(read_record(store, root, inode), record)
                self.assertIsInstance(read_record(store, root, inode), tuple)
        self.assertEqual(records_at(store, root), sorted(records.items()))
        self.assertEqual(uses_of(store), counted_uses(store, [(root, True)]))

    def test_writing_a_record_puts_one_item(self):
        store, root, _ = self.crowded()
        store = commit(store)

        def by_hand(store, root, inode, record):
            return put(store, root, (inode, 1, 0), record)

        for inode, record in ((4, RECORDS[2]), (5, RECORDS[5]), (GREAT + 5, RECORDS[0]), (4, RECORDS[1])):
            root = self.assert_same_change(store, write_record, by_hand, root, inode, record)

    def test_inodes_that_are_not_there(self):
        store, root, _ = self.crowded()
        for inode in (0, 2, 3, 5, 8, GREAT - 1, GREAT + 1, 2 * GREAT):
            self.assert_refused(store, Missing, read_record, root, inode)
            self.assert_refused(store, Missing, set_owner_of, root, inode, 5)
            self.assert_refused(store, Missing, charge_of, root, inode)
        empty = empty_tree(store)
        for function in (read_record, charge_of):
            self.assert_refused(store, Missing, function, empty, 1)
        self.assert_refused(store, Missing, set_owner_of, empty, 1, 0)

    def test_the_owner_changes_alone(self):
        store, root, records = self.crowded()
        others = [item for item in checked_items(store, root)[0] if item[0][1] != 1]
        for inode in list(records):
            for owner in (0, 255, 17):
                root = set_owner_of(store, root, inode, owner)
                records[inode] = (*records[inode][:3], owner)
                self.assertEqual(records_at(store, root), sorted(records.items()))
        self.assertEqual([item for item in checked_items(store, root)[0] if item[0][1] != 1], others)

    def test_setting_the_owner_puts_the_record(self):
        store, root, _ = self.crowded()
        store = commit(store)

        def by_hand(store, root, inode, owner):
            return put(store, root, (inode, 1, 0), (*read_record(store, root, inode)[:3], owner))

        for inode, owner in ((4, 200), (4, 200), (1, 3), (GREAT, 5)):
            root = self.assert_same_change(store, set_owner_of, by_hand, root, inode, owner)


class NumberTest(InodeCase):

    def test_a_tree_without_items(self):
        store = store_with(9)
        root = empty_tree(store)
        self.assertEqual(next_inode(store, root), 1)
        self.assertEqual((list_inodes(store, root), list_orphans(store, root)), ([], []))
        root, inode = add_inode(store, root, DIRECTORY, 1, 4)
        self.assertEqual((inode, list_inodes(store, root)), (1, [(1, (2, 1, 0, 4))]))

    def test_numbers_follow_the_greatest_one(self):
        store, root, _ = self.crowded()
        self.assertEqual(next_inode(store, root), GREAT + 1)
        for unit in (0, 62):
            root, _ = take(store, root, (GREAT, 3, unit))
        root, _ = take(store, root, (GREAT, 1, 0))
        # The greatest inode is a directory without items but its record now; the gaps 2, 3 and 5 are not filled.
        self.assertEqual(next_inode(store, root), 8)
        root, inode = add_inode(store, root, FILE, 0, 1)
        self.assertEqual((inode, next_inode(store, root), list_orphans(store, root)), (8, 9, [6, 8]))
        root, _ = take(store, root, (8, 1, 0))
        self.assertEqual(next_inode(store, root), 8)

    def test_an_orphan_with_the_greatest_number_counts(self):
        store = store_with(9)
        root = make_tree(store, 0)
        root = write_record(store, root, 9, (FILE, 0, 33, 1))
        self.assertEqual(next_inode(store, root), 10)
        root = put(store, root, (9, 3, 1), (*store.make([1] * 32), 0, 0))
        self.assertEqual(next_inode(store, root), 10)

    def test_the_last_item_is_an_entry(self):
        store = store_with(9)
        root = put(store, make_tree(store, 0), (1, 2, 40 ** 10), (1, 2, 0, 0))
        self.assertEqual(next_inode(store, root), 2)

    def test_added_inodes(self):
        store = store_with(9)
        root, expected = make_tree(store, 7), [(1, (2, 1, 0, 7))]
        for kind, second, owner in ((FILE, 0, 0), (FILE, 1, 255), (DIRECTORY, 1, 9), (DIRECTORY, 4, 0), (FILE, 60, 1)):
            found = add_inode(store, root, kind, second, owner)
            self.assertIsInstance(found, tuple)
            root, inode = found
            expected.append((len(expected) + 1, (kind, second, 0, owner)))
            self.assertEqual(inode, len(expected))
            self.assertEqual(list_inodes(store, root), expected)

    def test_adding_an_inode_puts_one_item(self):
        store, root, _ = self.crowded()
        store = commit(store)

        def by_hand(store, root, kind, second, owner):
            return put(store, root, (GREAT + 1, 1, 0), (kind, second, 0, owner)), GREAT + 1

        self.assert_same_change(store, add_inode, by_hand, root, FILE, 1, 8)


class ListTest(InodeCase):

    def test_lists_are_in_ascending_order(self):
        store, root, records = self.crowded()
        before = state_of(store)
        self.assertEqual(list_inodes(store, root), sorted(records.items()))
        self.assertEqual(list_orphans(store, root), [6])
        root = write_record(store, root, 2, (FILE, 0, 0, 1))
        root = write_record(store, root, 2 * GREAT, (FILE, 0, 0, 1))
        self.assertEqual(list_orphans(store, root), [2, 6, 2 * GREAT])
        self.assertNotEqual(state_of(store), before)

    def test_only_files_without_links_are_orphans(self):
        store = store_with(9)
        root = make_tree(store, 0)
        for inode, record in enumerate([(1, 1, 0, 0), (2, 0, 0, 0), (1, 60, 0, 0), (1, 0, 5, 0), (2, 1, 0, 0)], 2):
            root = write_record(store, root, inode, record)
        self.assertEqual(list_orphans(store, root), [5])

    def test_many_inodes(self):
        store = store_with(5, blocks=256)
        root, expected = make_tree(store, 1), [(1, (2, 1, 0, 1))]
        for at in range(150):
            record = (FILE, at % 3, 0, at)
            root, inode = add_inode(store, root, FILE, at % 3, at)
            expected.append((inode, record))
        self.assertEqual(list_inodes(store, root), expected)
        self.assertEqual(list_orphans(store, root), [inode for inode, record in expected if record[1] == 0])

    def test_charges(self):
        store, root, _ = self.crowded()
        before = state_of(store)
        self.assertEqual([charge_of(store, root, inode) for inode in (1, 4, 6, 7, GREAT)], [1, 4, 2, 1, 3])
        self.assertEqual(state_of(store), before)

    def test_the_charge_of_64_units(self):
        store = store_with(5, blocks=256)
        root = write_record(store, make_tree(store, 1), 2, (FILE, 1, 2048, 5))
        root = write_record(store, root, 3, (FILE, 1, 2048, 5))
        block = store.make([1] * 32)
        for unit in range(64):
            root = put(store, root, (2, 3, unit), (*block, 0, 0))
            store.share(block)
            self.assertEqual((charge_of(store, root, 2), charge_of(store, root, 3)), (unit + 2, 1))


class RoomTest(InodeCase):

    def test_the_reserve_of_the_store(self):
        store, root, _ = self.crowded()
        store = commit(store)
        self.assertEqual(self.assert_needs_room(store, make_tree, 3), 1)
        self.assertEqual(self.assert_needs_room(store, set_owner_of, root, 4, 9), 2)
        self.assertEqual(self.assert_needs_room(store, add_inode, root, FILE, 0, 9), 3)
        self.assertEqual(self.assert_needs_room(store, write_record, root, 5, RECORDS[0]), 2)

    def test_a_shared_tree_keeps_its_records(self):
        store, root, records = self.crowded()
        store.share(root)
        other = write_record(store, root, 4, RECORDS[0])
        other = set_owner_of(store, other, GREAT, 1)
        other, _ = add_inode(store, other, FILE, 0, 1)
        self.assertEqual(list_inodes(store, root), sorted(records.items()))
        self.assertEqual(len(list_inodes(store, other)), len(records) + 1)
        self.assertEqual(uses_of(store), counted_uses(store, [(root, True), (other, True)]))


if __name__ == "__main__":
    unittest.main()
