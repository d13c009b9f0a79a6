"""Volumes and snapshots: points [68] to [76]."""

import random
import unittest

from helpers import (
    VolumeCase, blocks_below, charges_of, checked_items, erase_by_hand, fill, root_of, state_of, table_items, usages,
    without_orphans)
from laminae.commits import commit
from laminae.data import erase_inode, share_range
from laminae.errors import BadName, Busy, Exists, NotEmpty, NoVolume, OverQuota, ReadOnly, TooMany, WrongKind
from laminae.inodes import DIRECTORY, FILE, add_inode, list_orphans, make_tree
from laminae.owners import Accounts
from laminae.trees import put, release, take
from laminae.volumes import (
    clone_snapshot, count_charges, drop_volume, find_volume, list_volumes, make_volume, prepare_root, release_step,
    roll_back, set_root, take_snapshot, waiting_roots)
from laminae.words import name_word

WRONG_NAMES = ("", "A", "..", ".", "a" * 12, "a/b", "@main", "main ", "a\n")


def put_item(store, kind, rest, value):
    """Put an item into the table."""
    store.use_table(put(store, store.table, (0, kind, rest), value))


def take_item(store, kind, rest):
    """Take an item out of the table."""
    table, _ = take(store, store.table, (0, kind, rest))
    store.use_table(table)


def value_of(store, name):
    """The value of a volume in the table."""
    return dict(table_items(store))[(0, 4, name_word(name))]


def make_by_hand(store, name):
    root = make_tree(store, 0)
    put_item(store, 4, name_word(name), (*root, 1, 0))


def snapshot_by_hand(store, volume, name):
    root = value_of(store, volume)[:2]
    store.share(root)
    put_item(store, 4, name_word(name), (*root, 0, name_word(volume)))


def copy_by_hand(store, name):
    """Share the root of a volume, and remove the orphans in the copy."""
    root = value_of(store, name)[:2]
    store.share(root)
    for inode in list_orphans(store, root):
        root = erase_by_hand(store, root, inode)
    return root


def clone_by_hand(store, snapshot, name):
    root = copy_by_hand(store, snapshot)
    put_item(store, 4, name_word(name), (*root, 1, name_word(snapshot)))


def wait_by_hand(store, root):
    serials = [key[2] for key, _ in table_items(store) if key[1] == 6]
    put_item(store, 6, max(serials, default=0) + 1, (*root, 0, 0))


def drop_by_hand(store, name):
    root = value_of(store, name)[:2]
    take_item(store, 4, name_word(name))
    wait_by_hand(store, root)


def roll_back_by_hand(store, volume, snapshot):
    before = value_of(store, volume)
    root = copy_by_hand(store, snapshot)
    put_item(store, 4, name_word(volume), (*root, *before[2:]))
    wait_by_hand(store, before[:2])


def release_by_hand(store):
    waiting = [(key[2], value[:2]) for key, value in table_items(store) if key[1] == 6]
    if not waiting:
        return False
    take_item(store, 6, waiting[0][0])
    release(store, waiting[0][1])
    return True


def prepare_by_hand(store, name):
    value = value_of(store, name)
    put_item(store, 4, name_word(name), value)
    return value[:2]


# Each change without accounts, and the same by hand.
CHANGES = {
    "make": (lambda store, name: make_volume(store, None, name), make_by_hand),
    "snapshot": (take_snapshot, snapshot_by_hand),
    "clone": (lambda store, snapshot, name: clone_snapshot(store, None, snapshot, name), clone_by_hand),
    "drop": (lambda store, name: drop_volume(store, None, name), drop_by_hand),
    "roll back": (lambda store, volume, snapshot: roll_back(store, None, volume, snapshot), roll_back_by_hand),
    "release": (release_step, release_by_hand),
    "prepare": (prepare_root, prepare_by_hand),
}


class Tested(VolumeCase):

    def change(self, kind, *given):
        """Make a change, and check that it does the same as what is done by hand."""
        change, by_hand = CHANGES[kind]
        found = self.assert_same_change(self.store, change, by_hand, *given)
        self.assert_uses()
        return found

    def refuse(self, error, kind, *given):
        """Check that a change is refused, also if no block is free."""
        for reserve in (300, 0):
            self.store.use_reserve(reserve)
            self.assert_refused(self.store, error, CHANGES[kind][0], *given)


class TableTest(Tested):

    def test_the_example_of_the_interface(self):
        self.start()
        root = root_of(self.store, "main")
        self.assertEqual(self.store.uses(root), 1)
        self.assertIs(self.change("snapshot", "main", "s1"), None)
        self.assertEqual(self.store.uses(root), 2)
        self.assertEqual(list_volumes(self.store), [("main", True, ""), ("s1", False, "main")])
        self.refuse(Busy, "drop", "main")
        self.assertIs(self.change("drop", "s1"), None)
        self.assertEqual(waiting_roots(self.store), [(1, root)])
        self.assertIs(self.change("release"), True)
        self.assertEqual(self.store.uses(root), 1)

    def test_the_items_of_the_table(self):
        self.start()
        main = root_of(self.store, "main")
        self.change("make", "b")
        self.change("snapshot", "main", "s1")
        self.change("snapshot", "s1", "s2")
        self.change("clone", "s2", "a")
        other = root_of(self.store, "b")
        words = {name: name_word(name) for name in ("main", "b", "s1", "s2", "a")}
        self.assertEqual(table_items(self.store), [
            ((0, 4, words["a"]), (*main, 1, words["s2"])), ((0, 4, words["b"]), (*other, 1, 0)),
            ((0, 4, words["main"]), (*main, 1, 0)), ((0, 4, words["s1"]), (*main, 0, words["main"])),
            ((0, 4, words["s2"]), (*main, 0, words["s1"]))])
        self.assertEqual((self.store.uses(main), self.store.uses(other)), (4, 1))
        self.change("drop", "a")
        self.change("drop", "s2")
        self.assertEqual(table_items(self.store)[3:], [
            ((0, 6, 1), (*main, 0, 0)), ((0, 6, 2), (*main, 0, 0))])

    def test_volumes_are_listed_in_the_order_of_their_words(self):
        self.start()
        for name in ("z", "0", "-", "a.", "ab", "._", "9" * 11):
            self.change("make", name)
        self.assertEqual(
            [name for name, _, _ in list_volumes(self.store)], ["ab", "a.", "main", "z", "0", "9" * 11, "._", "-"])
        for row in list_volumes(self.store):
            self.assertIsInstance(row, tuple)
            self.assertIs(row[1], True)

    def test_finding_volumes(self):
        self.start()
        root = root_of(self.store, "main")
        self.change("snapshot", "main", "s1")
        self.change("clone", "s1", "c1")
        for name, writable, origin in (("main", True, ""), ("s1", False, "main"), ("c1", True, "s1")):
            found = find_volume(self.store, name)
            self.assertEqual(found, (root, writable, origin))
            self.assertIs(found[1], writable)
        for name in ("mai", "main0", "s", *WRONG_NAMES):
            self.assert_refused(self.store, NoVolume, find_volume, name)

    def test_other_items_of_the_table_are_no_volumes(self):
        self.start()
        put_item(self.store, 5, name_word("x"), (0, 0, 0, 0))
        put_item(self.store, 5, 1, (0, 0, 0, 0))
        self.assertEqual(list_volumes(self.store), [("main", True, "")])
        self.assertEqual(waiting_roots(self.store), [])
        self.assert_refused(self.store, NoVolume, find_volume, "x")

    def test_reading_changes_nothing(self):
        self.start()
        self.change("snapshot", "main", "s1")
        before = state_of(self.store)
        list_volumes(self.store).append(1)
        waiting_roots(self.store).append(1)
        count_charges(self.store, root_of(self.store, "main"))[7] = (1, 1)
        self.assertEqual(list_volumes(self.store), [("main", True, ""), ("s1", False, "main")])
        self.assertEqual(state_of(self.store), before)


class RootTest(Tested):

    def test_preparing_and_setting_a_root(self):
        self.start()
        self.change("snapshot", "main", "s1")
        commit(self.store)
        before = root_of(self.store, "main")
        uses = self.store.uses(before)
        self.assertEqual(self.change("prepare", "main"), before)
        self.assertTrue(self.store.is_new(self.store.table))
        self.assertEqual(self.store.uses(before), uses)
        root, _ = add_inode(self.store, before, FILE, 0, 0)
        self.assertIs(set_root(self.store, "main", root), None)
        self.assertEqual(find_volume(self.store, "main"), (root, True, ""))
        self.assertEqual(find_volume(self.store, "s1"), (before, False, "main"))
        self.assert_uses()

    def test_a_root_that_is_given_up_is_not_shared(self):
        self.start()
        for name in ("b", "c", "d", "e"):
            self.change("make", name)
        commit(self.store)
        before = root_of(self.store, "main")
        root = prepare_root(self.store, "main")
        root, _ = add_inode(self.store, root, FILE, 0, 0)
        self.assertEqual(self.store.uses(before), 0)
        saved, table = self.store.saved(), self.store.table
        set_root(self.store, "main", root)
        self.assertEqual(self.store.table, table)
        self.assert_uses()
        self.store.restore(saved)

    def test_the_origin_stays(self):
        self.start()
        self.change("snapshot", "main", "s1")
        self.change("clone", "s1", "c1")
        self.add_file("c1", "x", [1])
        self.assertEqual(find_volume(self.store, "c1")[1:], (True, "s1"))
        self.assert_uses()

    def test_setting_the_root_that_the_volume_has(self):
        self.start()
        root = root_of(self.store, "main")
        self.store.use_reserve(300)
        before = state_of(self.store)
        self.assertIs(set_root(self.store, "main", root), None)
        self.assertEqual(state_of(self.store), before)

    def test_setting_a_root_changes_no_uses_but_those_of_the_table(self):
        self.start()
        self.change("make", "b")
        first, second = root_of(self.store, "main"), root_of(self.store, "b")
        commit(self.store)
        set_root(self.store, "main", second)
        self.assertEqual((self.store.uses(first), self.store.uses(second)), (1, 1))
        self.assertEqual(root_of(self.store, "main"), second)

    def test_snapshots_and_names_that_are_not_there(self):
        self.start()
        self.change("snapshot", "main", "s1")
        root = root_of(self.store, "main")
        for name, error in (("s1", ReadOnly), ("x", NoVolume), *((name, NoVolume) for name in WRONG_NAMES)):
            for reserve in (300, 0):
                self.store.use_reserve(reserve)
                self.assert_refused(self.store, error, prepare_root, name)
                for given in (root, (60, 1)):
                    self.assert_refused(self.store, error, set_root, name, given)


class ChargeTest(Tested):

    def test_charges_of_a_tree(self):
        self.start()
        self.add_file("main", "a", [1] * 70, owner=4)
        self.add_file("main", "b", [0] * 70, owner=4)
        self.add_file("main", None, [1] * 33 + [0] * 64 + [1], owner=255)
        root, _ = add_inode(self.store, prepare_root(self.store, "main"), DIRECTORY, 1, 9)
        set_root(self.store, "main", root)
        expected = {0: (1, 1), 4: (5, 2), 255: (4, 1), 9: (1, 1)}
        before = state_of(self.store)
        self.assertEqual(count_charges(self.store, root), expected)
        self.assertEqual(state_of(self.store), before)
        self.change("snapshot", "main", "s")
        self.assertEqual(count_charges(self.store, root_of(self.store, "s")), expected)

    def test_shared_blocks_are_charged_to_each_inode(self):
        self.start()
        first, second = self.add_file("main", "a", [1] * 64, owner=4), self.add_file("main", "b", owner=5)
        root = share_range(self.store, prepare_root(self.store, "main"), first, 0, second, 0, 2)
        root = share_range(self.store, root, first, 0, first, 5, 1)
        set_root(self.store, "main", root)
        self.assertEqual(count_charges(self.store, root), {0: (1, 1), 4: (4, 1), 5: (3, 1)})

    def test_a_new_volume(self):
        self.start()
        self.assertEqual(count_charges(self.store, root_of(self.store, "main")), {0: (1, 1)})
        self.give("main", 1, 7)
        self.assertEqual(count_charges(self.store, root_of(self.store, "main")), {7: (1, 1)})


class MakeTest(Tested):

    def test_a_new_volume(self):
        self.start()
        self.assertIs(self.change("make", "new"), None)
        root, writable, origin = find_volume(self.store, "new")
        self.assertEqual((writable, origin), (True, ""))
        self.assertEqual(checked_items(self.store, root)[0], [((1, 1, 0), (2, 1, 0, 0))])

    def test_the_charge(self):
        self.start()
        accounts = Accounts(self.store)
        self.assertIs(make_volume(self.store, accounts, "new"), None)
        self.assertEqual(accounts.usage(0), (2, 2))
        self.assert_counted(accounts)

    def test_8_volumes(self):
        self.start()
        for number in range(7):
            given = ("make",) if number % 2 == 0 else ("snapshot", "main")
            self.change(*given, "v" + str(number))
        self.assertEqual(len(list_volumes(self.store)), 8)
        accounts = Accounts(self.store)
        for reserve in (300, 0):
            self.store.use_reserve(reserve)
            self.assert_refused_with(accounts, TooMany, make_volume, accounts, "x")
            self.assert_refused_with(accounts, TooMany, take_snapshot, "main", "x")
            self.assert_refused_with(accounts, TooMany, clone_snapshot, accounts, "v1", "x")
            self.assert_refused_with(accounts, Exists, make_volume, accounts, "v0")
            self.assert_refused_with(accounts, Exists, take_snapshot, "main", "v0")
            self.assert_refused_with(accounts, Exists, clone_snapshot, accounts, "v1", "v0")
        self.change("drop", "v1")
        self.change("snapshot", "main", "x")
        self.refuse(TooMany, "make", "y")

    def test_the_order_of_the_exceptions(self):
        self.start()
        self.change("snapshot", "main", "s")
        for name in WRONG_NAMES:
            self.refuse(BadName, "make", name)
            for volume in ("main", "s", "x", "A"):
                self.refuse(BadName, "snapshot", volume, name)
                self.refuse(BadName, "clone", volume, name)
        for name in ("main", "s"):
            self.refuse(Exists, "make", name)
            self.refuse(Exists, "snapshot", "main", name)
            self.refuse(Exists, "snapshot", "s", name)
            self.refuse(Exists, "clone", "s", name)
        for name in ("main", "s", "y"):
            for volume in ("x", *WRONG_NAMES):
                self.refuse(NoVolume, "snapshot", volume, name)
                self.refuse(NoVolume, "clone", volume, name)
            self.refuse(WrongKind, "clone", "main", name)
        for number in range(6):
            self.change("make", "v" + str(number))
        for volume in ("x", "A"):
            self.refuse(NoVolume, "snapshot", volume, "y")
            self.refuse(NoVolume, "clone", volume, "y")
        self.refuse(WrongKind, "clone", "main", "y")


class SnapshotTest(Tested):

    def test_the_uses_of_the_root(self):
        self.start()
        self.add_file("main", "a", range(1, 200))
        root = root_of(self.store, "main")
        for many, (volume, name) in enumerate((("main", "s1"), ("s1", "s2"), ("main", "s3"), ("s2", "s4")), 2):
            self.change("snapshot", volume, name)
            self.assertEqual((root_of(self.store, name), self.store.uses(root)), (root, many))
        self.assertEqual(
            [(name, origin) for name, _, origin in list_volumes(self.store)],
            [("main", ""), ("s1", "main"), ("s2", "s1"), ("s3", "main"), ("s4", "s2")])

    def test_no_block_of_a_snapshot_changes(self):
        for settled in (False, True):
            self.start()
            inode = self.add_file("main", "a", range(1, 300))
            self.add_file("main", "b", range(1, 100))
            if settled:
                commit(self.store)
            self.change("snapshot", "main", "s")
            before, blocks = self.shown("main"), blocks_below(self.store, root_of(self.store, "s"))
            self.write("main", inode, 40, [0] * 50)
            self.add_file("main", "c", range(1, 100))
            root = erase_inode(self.store, prepare_root(self.store, "main"), inode)
            set_root(self.store, "main", root)
            self.assert_uses()
            self.assertNotEqual(self.shown("main"), before)
            for _ in range(2):
                self.assertEqual(self.shown("s"), before)
                self.assertEqual(blocks_below(self.store, root_of(self.store, "s")), blocks)
                commit(self.store)
            for number, words in blocks.items():
                self.assertEqual(self.store.read((number, 1)), words)

    def test_snapshots_are_charged_nothing_and_keep_orphans(self):
        self.start()
        self.add_file("main", None, [1] * 40, owner=3)
        accounts = Accounts(self.store)
        before = usages(accounts)
        take_snapshot(self.store, "main", "s")
        self.assertEqual(usages(accounts), before)
        self.assert_counted(accounts)
        self.assertEqual(self.shown("s"), self.shown("main"))


class CloneTest(Tested):

    def start_with_orphans(self):
        """Begin with a snapshot s of main that has orphans, files and an owner with a limit."""
        self.start()
        self.accounts = Accounts(self.store)
        self.add_file("main", None, range(1, 100), owner=3)
        self.add_file("main", "a", range(1, 70), owner=3)
        self.add_file("main", None, owner=4)
        self.add_file("main", "b", range(1, 40), owner=4)
        self.add_file("main", None, range(1, 70), owner=3)
        self.change("snapshot", "main", "s")
        commit(self.store)
        self.accounts = Accounts(self.store)

    def test_a_clone_has_no_orphans(self):
        self.start_with_orphans()
        before = self.shown("s")
        self.assertEqual(len(list_orphans(self.store, root_of(self.store, "s"))), 3)
        self.assertIs(self.change("clone", "s", "c"), None)
        self.assertEqual(find_volume(self.store, "c")[1:], (True, "s"))
        self.assertEqual(self.shown("c"), without_orphans(before))
        self.assertEqual((self.shown("s"), self.shown("main")), (before, before))

    def test_a_clone_of_a_tree_without_orphans_shares_the_root(self):
        self.start()
        self.add_file("main", "a", [1])
        self.change("snapshot", "main", "s")
        self.change("clone", "s", "c")
        self.assertEqual(root_of(self.store, "c"), root_of(self.store, "s"))
        self.assertEqual(self.store.uses(root_of(self.store, "c")), 3)
        blocks = blocks_below(self.store, root_of(self.store, "s"))
        self.write("c", 2, 0, [5])
        self.assertEqual(blocks_below(self.store, root_of(self.store, "s")), blocks)
        self.assertEqual(root_of(self.store, "main"), root_of(self.store, "s"))
        self.assert_uses()

    def test_what_is_charged(self):
        self.start_with_orphans()
        expected = charges_of(without_orphans(self.shown("s")))
        before = self.accounts.usage(3)
        self.assertIs(clone_snapshot(self.store, self.accounts, "s", "c"), None)
        self.assertEqual(count_charges(self.store, root_of(self.store, "c")), expected)
        self.assertEqual(expected, {0: (1, 1), 3: (4, 1), 4: (3, 1)})
        self.assertEqual(self.accounts.usage(3), (before[0] + 4, before[1] + 1))
        self.assert_counted(self.accounts)

    def test_limits(self):
        for owner, parent, charge, inodes in ((3, 0, 4, 1), (4, 3, 3, 1)):
            for less_charge, less_inodes in ((0, 0), (1, 0), (0, 1)):
                self.start_with_orphans()
                accounts = self.accounts
                used_charge, used_inodes = accounts.usage(owner)
                limits = (used_charge + charge - less_charge, used_inodes + inodes - less_inodes)
                if parent:
                    accounts.put_owner(self.store, parent, 0, None, None)
                accounts.put_owner(self.store, owner, parent, *limits)
                if less_charge or less_inodes:
                    for reserve in (300, 0):
                        self.store.use_reserve(reserve)
                        self.assert_refused_with(accounts, OverQuota, clone_snapshot, accounts, "s", "c")
                        self.assert_refused_with(accounts, Exists, clone_snapshot, accounts, "s", "main")
                        self.assert_refused_with(accounts, WrongKind, clone_snapshot, accounts, "main", "c")
                else:
                    clone_snapshot(self.store, accounts, "s", "c")
                    self.assertEqual(accounts.usage(owner), limits)
                self.assert_counted(accounts)
                self.assert_uses()

    def test_rolling_back(self):
        self.start_with_orphans()
        before = self.shown("s")
        self.add_file("main", "c", range(1, 200), owner=5)
        self.write("main", 3, 0, [9] * 100)
        old = root_of(self.store, "main")
        self.assertIs(self.change("roll back", "main", "s"), None)
        self.assertEqual(self.shown("main"), without_orphans(before))
        self.assertEqual(self.shown("s"), before)
        self.assertEqual(waiting_roots(self.store), [(1, old)])
        self.assertEqual(list_volumes(self.store), [("main", True, ""), ("s", False, "main")])
        self.assertIs(self.change("release"), True)
        self.assertEqual(self.shown("main"), without_orphans(before))

    def test_rolling_back_a_clone_keeps_its_origin(self):
        self.start_with_orphans()
        self.change("clone", "s", "c")
        self.change("snapshot", "c", "t")
        self.add_file("c", "x", [1])
        self.change("roll back", "c", "t")
        self.assertEqual(find_volume(self.store, "c")[1:], (True, "s"))
        self.assertEqual(root_of(self.store, "c"), root_of(self.store, "t"))
        self.refuse(WrongKind, "roll back", "c", "s")

    def test_what_rolling_back_charges(self):
        self.start_with_orphans()
        self.add_file("main", "c", range(1, 200), owner=5)
        self.add_file("main", None, range(1, 200), owner=5)
        accounts = Accounts(self.store)
        self.assertEqual(accounts.usage(5), (16, 2))
        roll_back(self.store, accounts, "main", "s")
        self.assertEqual((accounts.usage(5), accounts.usage(3), accounts.usage(0)), ((0, 0), (4, 1), (8, 3)))
        self.assert_counted(accounts)

    def test_limits_when_rolling_back(self):
        for limits, is_refused in (
                ((4, 1), False), ((3, 1), True), ((4, 0), True), ((None, 0), True), ((0, None), True),
                ((None, None), False)):
            self.start_with_orphans()
            root = erase_inode(self.store, prepare_root(self.store, "main"), 2)
            root = erase_inode(self.store, erase_inode(self.store, root, 3), 6)
            set_root(self.store, "main", root)
            accounts = Accounts(self.store)
            accounts.put_owner(self.store, 3, 0, *limits)
            self.assertEqual(accounts.usage(3), (0, 0))
            if is_refused:
                for reserve in (300, 0):
                    self.store.use_reserve(reserve)
                    self.assert_refused_with(accounts, OverQuota, roll_back, accounts, "main", "s")
                    self.assert_refused_with(accounts, WrongKind, roll_back, accounts, "main", "main")
            else:
                roll_back(self.store, accounts, "main", "s")
                self.assertEqual(accounts.usage(3), (4, 1))
            self.assert_counted(accounts)

    def test_a_limit_below_what_is_charged_does_not_keep_from_rolling_back(self):
        self.start_with_orphans()
        accounts = self.accounts
        self.assertEqual(accounts.usage(3), (13, 3))
        accounts.put_owner(self.store, 3, 0, 0, 0)
        roll_back(self.store, accounts, "main", "s")
        self.assertEqual(accounts.usage(3), (4, 1))
        self.assert_refused_with(accounts, OverQuota, clone_snapshot, accounts, "s", "c")

    def test_exceptions_of_rolling_back(self):
        self.start_with_orphans()
        self.change("clone", "s", "c")
        self.change("snapshot", "s", "t")
        self.change("snapshot", "c", "u")
        for name in ("x", *WRONG_NAMES):
            for other in ("main", "s", "x", "c"):
                self.refuse(NoVolume, "roll back", name, other)
                self.refuse(NoVolume, "roll back", other, name)
        for other in ("main", "s", "t", "u", "c"):
            self.refuse(ReadOnly, "roll back", "s", other)
            self.refuse(ReadOnly, "roll back", "t", other)
        for volume, other in (("main", "main"), ("main", "c"), ("main", "t"), ("main", "u"), ("c", "s"), ("c", "main")):
            self.refuse(WrongKind, "roll back", volume, other)
        put_item(self.store, 4, name_word("w"), (*root_of(self.store, "main"), 1, name_word("main")))
        self.refuse(WrongKind, "roll back", "main", "w")


class DropTest(Tested):

    def test_exceptions(self):
        self.start()
        for name in ("x", *WRONG_NAMES):
            self.refuse(NoVolume, "drop", name)
        self.refuse(Busy, "drop", "main")
        self.change("snapshot", "main", "s")
        self.refuse(Busy, "drop", "main")
        self.change("snapshot", "s", "t")
        self.refuse(NotEmpty, "drop", "s")
        self.change("make", "b")
        self.refuse(NotEmpty, "drop", "main")
        self.change("drop", "b")
        self.refuse(Busy, "drop", "main")
        self.change("clone", "t", "c")
        for name in ("main", "s", "t"):
            self.refuse(NotEmpty, "drop", name)
        self.change("drop", "c")
        for name in ("t", "s"):
            self.change("drop", name)
        self.change("make", "b")
        self.change("drop", "main")
        self.refuse(Busy, "drop", "b")
        self.assertEqual(list_volumes(self.store), [("b", True, "")])

    def test_the_charge_comes_back(self):
        self.start()
        self.add_file("main", "a", [1] * 50, owner=3)
        make_volume(self.store, None, "b")
        self.add_file("b", "a", [1] * 70, owner=3)
        self.add_file("b", None, [1] * 70, owner=4)
        take_snapshot(self.store, "b", "s")
        accounts = Accounts(self.store)
        self.assertEqual((accounts.usage(3), accounts.usage(4), accounts.usage(0)), ((7, 2), (4, 1), (13, 5)))
        clone_snapshot(self.store, accounts, "s", "c")
        self.assertEqual((accounts.usage(3), accounts.usage(4)), ((11, 3), (4, 1)))
        before = usages(accounts)
        self.assertIs(drop_volume(self.store, accounts, "c"), None)
        self.assertNotEqual(usages(accounts), before)
        before = usages(accounts)
        drop_volume(self.store, accounts, "s")
        self.assertEqual(usages(accounts), before)
        drop_volume(self.store, accounts, "b")
        self.assertEqual((accounts.usage(3), accounts.usage(4), accounts.usage(0)), ((3, 1), (0, 0), (4, 2)))
        self.assert_counted(accounts)
        self.assert_uses()

    def test_serials(self):
        self.start()
        self.assertEqual(waiting_roots(self.store), [])
        roots = []
        for name in ("a", "b", "c", "d"):
            self.change("make", name)
            roots.append(root_of(self.store, name))
        for name in ("c", "a", "b"):
            self.change("drop", name)
        self.assertEqual(waiting_roots(self.store), [(1, roots[2]), (2, roots[0]), (3, roots[1])])
        self.assertIs(self.change("release"), True)
        self.assertEqual(waiting_roots(self.store), [(2, roots[0]), (3, roots[1])])
        self.change("drop", "d")
        self.assertEqual(waiting_roots(self.store), [(2, roots[0]), (3, roots[1]), (4, roots[3])])
        for left in (2, 1, 0):
            self.assertIs(self.change("release"), True)
            self.assertEqual(len(waiting_roots(self.store)), left)
        self.store.use_reserve(300)
        before = state_of(self.store)
        self.assertIs(release_step(self.store), False)
        self.assertEqual(state_of(self.store), before)
        self.store.use_reserve(0)
        self.change("make", "e")
        self.change("drop", "e")
        self.assertEqual([serial for serial, _ in waiting_roots(self.store)], [1])

    def test_serials_of_many_waiting_roots(self):
        self.start()
        for _ in range(12):
            self.change("make", "x")
            self.change("drop", "x")
        self.assertEqual([serial for serial, _ in waiting_roots(self.store)], list(range(1, 13)))
        for _ in range(12):
            self.assertIs(self.change("release"), True)
        self.assertIs(self.change("release"), False)

    def test_all_room_comes_back(self):
        self.start()
        free = self.store.free()
        make_volume(self.store, None, "b")
        inode = self.add_file("b", "x", range(1, 500))
        commit(self.store)
        take_snapshot(self.store, "b", "s")
        self.write("b", inode, 100, [7] * 200)
        commit(self.store)
        clone_snapshot(self.store, None, "s", "c")
        self.write("c", inode, 0, [7] * 20)
        roll_back(self.store, None, "b", "s")
        commit(self.store)
        for name in ("c", "s", "b"):
            drop_volume(self.store, None, name)
        self.assertEqual(len(waiting_roots(self.store)), 4)
        commit(self.store)
        self.assertLess(self.store.free(), free - 20)
        while release_step(self.store):
            self.assert_uses()
            commit(self.store)
        self.assertEqual((self.store.free(), self.store.space.pending()), (free, 0))

    def test_a_release_leaves_what_others_share(self):
        self.start()
        inode = self.add_file("main", "x", range(1, 300))
        take_snapshot(self.store, "main", "s")
        commit(self.store)
        self.write("main", inode, 0, [9])
        before = self.shown("main")
        drop_volume(self.store, None, "s")
        self.assertIs(self.change("release"), True)
        commit(self.store)
        fill(self.store, 0)
        self.assertEqual(self.shown("main"), before)


class RoomTest(Tested):

    def start_full(self):
        """Begin with several volumes, orphans and two waiting roots."""
        self.start()
        self.add_file("main", None, range(1, 70))
        self.add_file("main", "a", range(1, 40))
        for name in ("b", "d", "e"):
            make_volume(self.store, None, name)
        take_snapshot(self.store, "main", "s")
        for name in ("d", "e"):
            drop_volume(self.store, None, name)
        self.write("main", 3, 0, [5])
        commit(self.store)

    def test_the_reserves(self):
        self.start_full()
        for change in (
                self.counting(make_volume, "x"), self.counting(clone_snapshot, "s", "x"),
                self.counting(roll_back, "main", "s"), self.counting(drop_volume, "b")):
            self.assertGreater(self.assert_needs_room(self.store, change), 2)
        self.assertGreater(self.assert_needs_room(self.store, take_snapshot, "main", "x"), 1)
        self.assertGreater(self.assert_needs_room(self.store, prepare_root, "main"), 1)
        self.assertGreater(self.assert_needs_room(self.store, set_root, "main", (60, 1)), 1)
        self.assertGreater(self.assert_needs_room(self.store, release_step), 1)

    def test_dropping_and_releasing_with_the_reserve_0(self):
        self.start()
        accounts = Accounts(self.store)
        for owner in range(1, 9):
            accounts.put_owner(self.store, owner, 0, None, None)
        for number in range(4):
            make_volume(self.store, None, "w" + str(number))
            self.add_file("w" + str(number), "x", range(1, 40))
        for number in range(3):
            take_snapshot(self.store, "main", "s" + str(number))
        for number in range(5):
            drop_volume(self.store, None, "s2")
            take_snapshot(self.store, "main", "s2")
        commit(self.store)
        fill(self.store, 20)
        saved = self.store.saved()
        for name in ("w0", "w1", "w2", "w3", "s0", "s1", "s2"):
            drop_volume(self.store, None, name)
            self.assertGreaterEqual(self.store.free(), 2)
            self.store.restore(saved)
        for _ in waiting_roots(self.store):
            self.assertIs(release_step(self.store), True)
            self.assertGreaterEqual(self.store.free(), 2)
            commit(self.store)
            fill(self.store, 20)

    def test_nothing_is_taken_without_a_change(self):
        self.start_full()
        self.store.use_reserve(300)
        before = state_of(self.store)
        set_root(self.store, "main", root_of(self.store, "main"))
        self.assertEqual(state_of(self.store), before)


class ManyChangesTest(Tested):

    def choose(self, chosen):
        """A change of volumes, and its arguments."""
        kind = chosen.choice(("make", "snapshot", "snapshot", "clone", "drop", "drop", "roll back", "roll back"))
        names = ("main", "a", "b", "s1", "s2", "s3", "c1", "c2", "A", "x")
        if kind in ("make", "drop"):
            return kind, chosen.choice(names)
        rows = list_volumes(self.store)
        if kind == "roll back" and chosen.random() < 0.6:
            pairs = [(origin, name) for name, writable, origin in rows if origin and not writable]
            if pairs:
                return kind, *chosen.choice(pairs)
        return kind, chosen.choice([row[0] for row in rows] + ["x"]), chosen.choice(names)

    def expected_error(self, kind, *given):
        """The exception of a change by the words of the interface, or None."""
        rows = {name: (writable, origin) for name, writable, origin in list_volumes(self.store)}
        if kind in ("make", "snapshot", "clone"):
            if given[-1] in WRONG_NAMES:
                return BadName
            if kind != "make" and given[0] not in rows:
                return NoVolume
            if kind == "clone" and rows[given[0]][0]:
                return WrongKind
            return Exists if given[-1] in rows else TooMany if len(rows) == 8 else None
        if kind == "drop":
            if given[0] not in rows:
                return NoVolume
            if [name for name in rows if rows[name][0]] == [given[0]]:
                return Busy
            return NotEmpty if given[0] in [origin for _, origin in rows.values()] else None
        if given[0] not in rows or given[1] not in rows:
            return NoVolume
        if not rows[given[0]][0]:
            return ReadOnly
        return WrongKind if rows[given[1]][0] or rows[given[1]][1] != given[0] else None

    def expected_rows(self, shows, kind, *given):
        """What the volumes show after a change: a dict from names to whether they are writable, origin and items."""
        after = dict(shows)
        if kind == "make":
            after[given[0]] = (True, "", [((1, 1, 0), (2, 1, 0, 0))])
        elif kind == "snapshot":
            after[given[1]] = (False, given[0], shows[given[0]][2])
        elif kind == "clone":
            after[given[1]] = (True, given[0], without_orphans(shows[given[0]][2]))
        elif kind == "drop":
            del after[given[0]]
        else:
            after[given[0]] = (*shows[given[0]][:2], without_orphans(shows[given[1]][2]))
        return after

    def shows(self):
        """What all volumes show."""
        return {name: (writable, origin, self.shown(name)) for name, writable, origin in list_volumes(self.store)}

    def test_against_a_model(self):
        seen = set()
        for seed in range(6):
            chosen = random.Random(seed)
            self.start()
            accounts = Accounts(self.store)
            for at in range(70):
                given = self.choose(chosen)
                error = self.expected_error(*given)
                seen.add((given[0], error))
                if error is not None:
                    self.refuse(error, *given)
                else:
                    expected = self.expected_rows(self.shows(), *given)
                    self.change_with(accounts, *given)
                    self.assertEqual(self.shows(), expected)
                self.assert_counted(accounts)
                self.change_a_file(chosen, at)
                accounts = Accounts(self.store)
                if at % 3 == 0:
                    commit(self.store)
                    while chosen.random() < 0.7 and self.change("release"):
                        commit(self.store)
        for kind in ("make", "snapshot", "clone", "drop", "roll back"):
            self.assertIn((kind, None), seen)
        for pair in (("clone", WrongKind), ("roll back", WrongKind), ("drop", NotEmpty), ("roll back", ReadOnly)):
            self.assertIn(pair, seen)

    def change_with(self, accounts, kind, *given):
        """Make a change with accounts, and compare it with what is done by hand."""
        functions = {"make": make_volume, "clone": clone_snapshot, "drop": drop_volume, "roll back": roll_back}

        def change(store, *names):
            if kind == "snapshot":
                return take_snapshot(store, *names)
            return functions[kind](store, accounts, *names)

        self.assert_same_change(self.store, change, CHANGES[kind][1], *given)
        self.assert_uses()

    def change_a_file(self, chosen, at):
        """Change a file of a writable volume, or add one."""
        name = chosen.choice([name for name, writable, _ in list_volumes(self.store) if writable])
        inodes = [key[0] for key, value in self.shown(name) if key[1] == 1 and value[0] == FILE]
        if len(inodes) < 3 and self.store.free() > 40:
            self.add_file(name, chosen.choice((None, "f" + str(at))), [1] * 40, owner=chosen.randrange(3))
        elif inodes and self.store.free() > 30:
            self.write(name, chosen.choice(inodes), chosen.randrange(100), [chosen.randrange(9)] * 33)
        self.assert_uses()


if __name__ == "__main__":
    unittest.main()
