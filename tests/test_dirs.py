"""Directories: points [50] to [52]."""

import random
import unittest

from helpers import ChangeChecks, checked_items, commit, counted_uses, left_by, state_of, store_with, uses_of
from laminae.dirs import add_entry, change_entry, drop_entry, find_entry, list_entries
from laminae.errors import Exists, Missing, TooMany, WrongKind
from laminae.inodes import DIRECTORY, FILE, add_inode, make_tree, read_record, write_record
from laminae.trees import put, take
from laminae.words import ALPHABET, name_word

LEAST, GREATEST = name_word("a"), name_word("-" * 11)
A, B, C = name_word("a"), name_word("b"), name_word("c")


def name_of(number):
    """The word of one of many names."""
    return name_word("n" + str(number))


def add_by_hand(store, root, directory, name, inode, kind):
    """Add an entry by [50] and [52]."""
    record, parent, many, owner = read_record(store, root, directory)
    root = put(store, root, (directory, 2, name), (inode, kind, 0, 0))
    return put(store, root, (directory, 1, 0), (record, parent, many + 1, owner))


def drop_by_hand(store, root, directory, name):
    """Remove an entry by [50] and [52]."""
    record, parent, many, owner = read_record(store, root, directory)
    root, _ = take(store, root, (directory, 2, name))
    return put(store, root, (directory, 1, 0), (record, parent, many - 1, owner))


class DirectoryCase(ChangeChecks, unittest.TestCase):

    def with_files(self, blocks=96):
        """A store, and the root of a tree with the root directory, the files 2 and 3 and the directory 4."""
        store = store_with(5, blocks=blocks)
        root = make_tree(store, 3)
        for kind, second in ((FILE, 1), (FILE, 1), (DIRECTORY, 1)):
            root, _ = add_inode(store, root, kind, second, 3)
        return store, root

    def assert_entries(self, store, root, directory, expected):
        """Check the entries of a directory, and its record."""
        rows = [(name, *expected[name]) for name in sorted(expected)]
        self.assertEqual(list_entries(store, root, directory), rows)
        items = [(key[2], value) for key, value in checked_items(store, root)[0] if key[:2] == (directory, 2)]
        self.assertEqual(items, [(name, (inode, kind, 0, 0)) for name, inode, kind in rows])
        self.assertEqual(read_record(store, root, directory)[2], len(expected))
        for name, entry in expected.items():
            self.assertEqual(find_entry(store, root, directory, name), entry)


class EntryTest(DirectoryCase):

    def test_the_example_of_the_interface(self):
        store, root = self.with_files()
        root = write_record(store, root, 3, (DIRECTORY, 1, 0, 3))
        root = add_entry(store, root, 1, B, 3, DIRECTORY)
        root = add_entry(store, root, 1, A, 2, FILE)
        self.assertEqual(list_entries(store, root, 1), [(A, 2, 1), (B, 3, 2)])
        self.assertEqual(read_record(store, root, 1), (2, 1, 2, 3))

    def test_an_empty_directory(self):
        store, root = self.with_files()
        self.assert_entries(store, root, 1, {})
        for name in (LEAST, GREATEST, B):
            self.assertIs(find_entry(store, root, 1, name), None)
            self.assert_refused(store, Missing, drop_entry, root, 1, name)
            self.assert_refused(store, Missing, change_entry, root, 1, name, 2, FILE)

    def test_the_least_and_the_greatest_names(self):
        store, root = self.with_files()
        for directory in (1, 4):
            root = add_entry(store, root, directory, GREATEST, 3, FILE)
            root = add_entry(store, root, directory, LEAST, 2, FILE)
            root = add_entry(store, root, directory, B, 4, DIRECTORY)
            self.assert_entries(store, root, directory, {LEAST: (2, 1), B: (4, 2), GREATEST: (3, 1)})
            for missing in (LEAST - 1, LEAST + 1, GREATEST - 1, GREATEST + 1, 1):
                self.assertIs(find_entry(store, root, directory, missing), None)
            root = drop_entry(store, root, directory, GREATEST)
            self.assert_entries(store, root, directory, {LEAST: (2, 1), B: (4, 2)})
            root = drop_entry(store, root, directory, LEAST)
            self.assert_entries(store, root, directory, {B: (4, 2)})

    def test_the_same_name_in_two_directories(self):
        store, root = self.with_files()
        root = add_entry(store, root, 1, A, 2, FILE)
        root = add_entry(store, root, 4, A, 3, FILE)
        self.assert_entries(store, root, 1, {A: (2, 1)})
        self.assert_entries(store, root, 4, {A: (3, 1)})
        root = drop_entry(store, root, 1, A)
        self.assert_entries(store, root, 1, {})
        self.assert_entries(store, root, 4, {A: (3, 1)})

    def test_names_are_in_the_order_of_their_words(self):
        store, root = self.with_files(256)
        expected = {}
        for letter in reversed(ALPHABET):
            if letter != ".":
                expected[name_word(letter)] = (2, 1)
                root = add_entry(store, root, 1, name_word(letter), 2, FILE)
        self.assert_entries(store, root, 1, expected)
        names = [name for name, _, _ in list_entries(store, root, 1)]
        self.assertEqual(names, [name_word(letter) for letter in ALPHABET if letter != "."])

    def test_the_record_of_the_inode_is_not_changed(self):
        store, root = self.with_files()
        records = [read_record(store, root, inode) for inode in (2, 3, 4)]
        root = add_entry(store, root, 1, A, 2, FILE)
        root = add_entry(store, root, 1, B, 4, DIRECTORY)
        root = change_entry(store, root, 1, A, 3, FILE)
        root = drop_entry(store, root, 1, B)
        self.assertEqual([read_record(store, root, inode) for inode in (2, 3, 4)], records)
        self.assertEqual(read_record(store, root, 1), (2, 1, 1, 3))

    def test_changed_entries(self):
        store, root = self.with_files()
        root = add_entry(store, root, 1, A, 2, FILE)
        root = add_entry(store, root, 1, B, 3, FILE)
        root = change_entry(store, root, 1, A, 4, DIRECTORY)
        self.assert_entries(store, root, 1, {A: (4, 2), B: (3, 1)})
        root = change_entry(store, root, 1, B, 3, FILE)
        self.assert_entries(store, root, 1, {A: (4, 2), B: (3, 1)})
        self.assert_refused(store, Missing, change_entry, root, 1, C, 2, FILE)

    def test_reading_changes_nothing(self):
        store, root = self.with_files()
        root = add_entry(store, root, 1, A, 2, FILE)
        before = state_of(store)
        found = list_entries(store, root, 1)
        found.append(7)
        find_entry(store, root, 1, A)
        find_entry(store, root, 1, B)
        self.assertEqual((list_entries(store, root, 1), state_of(store)), ([(A, 2, 1)], before))


class OrderTest(DirectoryCase):

    def committed(self):
        """A store with a directory whose record and entries stand in different leaves."""
        store, root = self.with_files(256)
        for number in range(20):
            root = add_entry(store, root, 1, name_of(number), 2, FILE)
        store = commit(store)
        return store, root

    def test_the_item_comes_before_the_record(self):
        store, root = self.committed()
        saved = store.saved()
        for number in (5, 19, 11):
            name = name_of(100 + number)
            self.assert_same_change(store, add_entry, add_by_hand, root, 1, name, 3, FILE)
            store.restore(saved)
            self.assert_same_change(store, drop_entry, drop_by_hand, root, 1, name_of(number))
            store.restore(saved)

    def test_the_other_order_would_take_other_blocks(self):
        store, root = self.committed()

        def record_first(store, root, name):
            root = put(store, root, (1, 1, 0), (2, 1, 21, 3))
            return put(store, root, (1, 2, name), (3, 1, 0, 0))

        name = name_of(119)
        self.assertNotEqual(
            left_by(store, record_first, root, name), left_by(store, add_by_hand, root, 1, name, 3, FILE))

    def test_changing_an_entry_puts_one_item(self):
        store, root = self.committed()

        def by_hand(store, root, directory, name, inode, kind):
            return put(store, root, (directory, 2, name), (inode, kind, 0, 0))

        for number, inode in ((3, 3), (3, 3), (19, 4)):
            root = self.assert_same_change(store, change_entry, by_hand, root, 1, name_of(number), inode, FILE)


class RefusalTest(DirectoryCase):

    def test_no_such_inode_and_files_come_first(self):
        store, root = self.with_files()
        root = add_entry(store, root, 1, A, 2, FILE)
        for directory, error in ((5, Missing), (10 ** 12, Missing), (2, WrongKind), (3, WrongKind)):
            for name in (A, B):
                self.assert_refused(store, error, find_entry, root, directory, name)
                self.assert_refused(store, error, add_entry, root, directory, name, 2, FILE)
                self.assert_refused(store, error, drop_entry, root, directory, name)
                self.assert_refused(store, error, change_entry, root, directory, name, 2, FILE)
            self.assert_refused(store, error, list_entries, root, directory)

    def test_a_name_in_use(self):
        store, root = self.with_files()
        root = add_entry(store, root, 1, A, 2, FILE)
        for inode, kind in ((2, FILE), (3, FILE), (4, DIRECTORY)):
            self.assert_refused(store, Exists, add_entry, root, 1, A, inode, kind)

    def test_100_entries(self):
        store, root = self.with_files(256)
        expected = {}
        for number in range(100):
            expected[name_of(number)] = (2, 1)
            root = add_entry(store, root, 1, name_of(number), 2, FILE)
        self.assert_entries(store, root, 1, expected)
        self.assert_refused(store, TooMany, add_entry, root, 1, A, 2, FILE)
        self.assert_refused(store, Exists, add_entry, root, 1, name_of(50), 2, FILE)
        root = change_entry(store, root, 1, name_of(50), 3, FILE)
        root = drop_entry(store, root, 1, name_of(7))
        self.assertEqual(read_record(store, root, 1), (2, 1, 99, 3))
        root = add_entry(store, root, 1, A, 2, FILE)
        self.assert_refused(store, TooMany, add_entry, root, 1, B, 2, FILE)
        root = add_entry(store, root, 4, A, 2, FILE)
        self.assertEqual(read_record(store, root, 1), (2, 1, 100, 3))

    def test_refusals_come_before_no_space(self):
        store, root = self.with_files()
        root = add_entry(store, root, 1, A, 2, FILE)
        store = commit(store)
        store.use_reserve(96)
        self.assert_refused(store, Exists, add_entry, root, 1, A, 2, FILE)
        self.assert_refused(store, Missing, drop_entry, root, 1, B)
        self.assert_refused(store, Missing, change_entry, root, 1, B, 2, FILE)
        store.use_reserve(0)
        root = write_record(store, root, 1, (2, 1, 100, 3))
        store.use_reserve(96)
        self.assert_refused(store, TooMany, add_entry, root, 1, B, 2, FILE)

    def test_the_reserve_of_the_store(self):
        store, root = self.with_files()
        for number in range(10):
            root = add_entry(store, root, 1, name_of(number), 2, FILE)
        store = commit(store)
        self.assertGreater(self.assert_needs_room(store, add_entry, root, 1, name_of(99), 2, FILE), 2)
        self.assertGreater(self.assert_needs_room(store, drop_entry, root, 1, name_of(9)), 2)
        self.assertGreater(self.assert_needs_room(store, change_entry, root, 1, name_of(9), 3, FILE), 1)


class ManyChangesTest(DirectoryCase):

    def test_against_dicts(self):
        for seed in range(4):
            chosen = random.Random(seed)
            store, root = self.with_files(256)
            model = {1: {}, 4: {}}
            for at in range(150):
                directory, name = chosen.choice((1, 4)), name_of(chosen.randrange(25))
                inode, kind = chosen.choice(((2, FILE), (3, FILE), (4, DIRECTORY)))
                entries = model[directory]
                action = chosen.choice((add_entry, add_entry, drop_entry, change_entry))
                given = (directory, name) if action == drop_entry else (directory, name, inode, kind)
                error = Exists if name in entries else Missing
                if (action == add_entry) == (name in entries):
                    self.assert_refused(store, error, action, root, *given)
                    continue
                root = action(store, root, *given)
                if action == drop_entry:
                    del entries[name]
                else:
                    entries[name] = (inode, kind)
                for checked in (1, 4):
                    self.assert_entries(store, root, checked, model[checked])
                self.assertEqual(uses_of(store), counted_uses(store, [(root, True)]))
                if at % 20 == 0:
                    store = commit(store)

    def test_a_shared_tree_keeps_its_entries(self):
        expected = {name_of(number): (2, 1) for number in range(12)}
        for settled in (False, True):
            store, root = self.with_files()
            for name in expected:
                root = add_entry(store, root, 1, name, 2, FILE)
            store = commit(store) if settled else store
            store.share(root)
            other = add_entry(store, root, 1, A, 3, FILE)
            other = drop_entry(store, other, 1, name_of(3))
            other = change_entry(store, other, 1, name_of(4), 3, FILE)
            self.assert_entries(store, root, 1, expected)
            changed = {**expected, A: (3, 1), name_of(4): (3, 1)}
            del changed[name_of(3)]
            self.assert_entries(store, other, 1, changed)
            self.assertEqual(uses_of(store), counted_uses(store, [(root, True), (other, True)]))


if __name__ == "__main__":
    unittest.main()
