"""Owners and quotas: points [77] to [81]."""

import random
import unittest

from helpers import VolumeCase, charges_of, table_items, usages
from laminae.commits import commit
from laminae.data import share_range
from laminae.errors import BadImage, Busy, LoopFound, Missing, NotEmpty, NotValid, OverQuota, TooMany
from laminae.inodes import charge_of
from laminae.owners import Accounts
from laminae.trees import put, take
from laminae.volumes import (
    clone_snapshot, drop_volume, make_volume, prepare_root, set_root, take_snapshot)

# A limit of each kind that is valid, and some that are not.
LIMITS = (None, 0, 1, 99999, 100000)
WRONG_LIMITS = (-1, 100001, 10 ** 20)


class OwnerCase(VolumeCase):

    def start(self, *owners):
        """Begin with the volume main, and register these owners with their parents and limits."""
        VolumeCase.start(self)
        self.accounts = Accounts(self.store)
        for given in owners:
            self.accounts.put_owner(self.store, *given)

    def refuse(self, error, method, *given):
        """Check that a method with the store is refused, also if no block is free."""
        for reserve in (300, 0):
            self.store.use_reserve(reserve)
            self.assert_refused_with(self.accounts, error, method, *given)

    def refuse_check(self, method, *given):
        """Check that a change of charges is refused."""
        before = usages(self.accounts)
        with self.assertRaises(OverQuota):
            method(*given)
        self.assertEqual(usages(self.accounts), before)

    def owner_items(self):
        """The owners in the table."""
        return [(key[2], value) for key, value in table_items(self.store) if key[1] == 5]


class ExampleTest(OwnerCase):

    def test_the_example_of_the_interface(self):
        self.start((1, 0, 10, None), (2, 1, None, None))
        self.add_file("main", "a", [1] * 96, owner=1)
        self.add_file("main", "b", [1] * 128, owner=2)
        accounts = Accounts(self.store)
        self.assertEqual(accounts.usage(1), (9, 2))
        self.assertIs(accounts.check_charge(2, 1, 0), None)
        with self.assertRaises(OverQuota):
            accounts.check_charge(2, 2, 0)
        self.assertIs(accounts.check_change({1: (4, 1)}, {2: (4, 1)}), None)

    def test_no_owner_is_registered(self):
        self.start()
        accounts = self.accounts
        self.assertEqual(accounts.list_owners(), [(0, None, None, None)])
        self.assertIs(accounts.is_registered(0), True)
        self.assertIs(accounts.is_registered(1), False)
        self.assertEqual((accounts.chain(0), accounts.chain(1), accounts.chain(255)), ([0], [1, 0], [255, 0]))
        self.assertEqual((accounts.usage(0), accounts.usage(1), accounts.usage(255)), ((1, 1), (0, 0), (0, 0)))


class PutTest(OwnerCase):

    def test_the_items_of_the_table(self):
        for charge_limit in LIMITS:
            for inode_limit in LIMITS:
                self.start((255, 0, charge_limit, inode_limit), (1, 255, inode_limit, charge_limit))
                words = [0 if limit is None else limit + 1 for limit in (charge_limit, inode_limit)]
                self.assertEqual(self.owner_items(), [(1, (255, *words[::-1], 0)), (255, (0, *words, 0))])
                rows = [(0, None, None, None), (1, 255, inode_limit, charge_limit), (255, 0, charge_limit, inode_limit)]
                for accounts in (self.accounts, Accounts(self.store)):
                    self.assertEqual(accounts.list_owners(), rows)
                self.assert_uses()

    def test_a_put_owner_returns_nothing_and_puts_one_item(self):
        self.start()

        def by_hand(store, owner, parent, charge_limit, inode_limit):
            store.use_table(put(store, store.table, (0, 5, owner), (parent, charge_limit + 1, inode_limit + 1, 0)))

        for given in ((7, 0, 3, 4), (7, 0, 5, 4), (8, 7, 0, 0), (7, 0, 5, 4)):
            commit(self.store)
            self.assertIs(
                self.assert_same_change(self.store, self.accounts.put_owner, by_hand, *given), None)
            self.assert_counted(self.accounts)

    def test_another_parent_and_other_limits(self):
        self.start((1, 0, 5, 6), (2, 1, 7, 8), (3, 0, None, None))
        self.assertEqual(self.accounts.chain(2), [2, 1, 0])
        self.accounts.put_owner(self.store, 2, 3, None, 0)
        self.assertEqual(self.accounts.chain(2), [2, 3, 0])
        self.accounts.put_owner(self.store, 3, 1, 0, None)
        self.assertEqual(self.accounts.chain(2), [2, 3, 1, 0])
        self.assertEqual(self.accounts.list_owners()[1:], [(1, 0, 5, 6), (2, 3, None, 0), (3, 1, 0, None)])
        self.assert_counted(self.accounts)
        self.assertIs(self.accounts.is_registered(2), True)

    def test_arguments_that_are_not_valid(self):
        self.start((1, 0, None, None))
        put_owner, drop_owner = self.accounts.put_owner, self.accounts.drop_owner
        for owner in (0, -1, 256, 10 ** 20):
            self.refuse(NotValid, put_owner, owner, 0, None, None)
            self.refuse(NotValid, put_owner, owner, 77, None, None)
            self.refuse(NotValid, drop_owner, owner)
        for parent in (-1, 256, 10 ** 20):
            self.refuse(NotValid, put_owner, 2, parent, None, None)
        for limit in WRONG_LIMITS:
            self.refuse(NotValid, put_owner, 2, 0, limit, None)
            self.refuse(NotValid, put_owner, 2, 0, None, limit)
            self.refuse(NotValid, put_owner, 2, 77, None, limit)
            self.refuse(NotValid, put_owner, 1, 1, limit, None)
        for owner in (1, 2, 254, 255):
            put_owner(self.store, owner, 0, 0, 100000)

    def test_parents_that_are_not_registered(self):
        self.start((1, 0, None, None))
        for owner in (1, 2):
            for parent in (2, 3, 255):
                self.refuse(Missing, self.accounts.put_owner, owner, parent, None, None)

    def test_loops(self):
        self.start((1, 0, None, None), (2, 1, None, None), (3, 2, None, None), (4, 0, None, None))
        for owner, parent in ((1, 1), (1, 2), (1, 3), (2, 2), (2, 3), (3, 3)):
            self.refuse(LoopFound, self.accounts.put_owner, owner, parent, None, None)
        self.accounts.put_owner(self.store, 3, 1, None, None)
        self.accounts.put_owner(self.store, 2, 3, None, None)
        self.refuse(LoopFound, self.accounts.put_owner, 3, 2, None, None)
        self.accounts.put_owner(self.store, 1, 4, None, None)
        self.assertEqual(self.accounts.chain(2), [2, 3, 1, 4, 0])

    def test_8_owners(self):
        self.start(*[(owner * 20, (owner - 1) * 20, None, None) for owner in range(1, 8)])
        self.accounts.put_owner(self.store, 255, 140, 5, 5)
        self.assertEqual(self.accounts.chain(255), [255, 140, 120, 100, 80, 60, 40, 20, 0])
        self.refuse(TooMany, self.accounts.put_owner, 1, 0, None, None)
        self.refuse(TooMany, self.accounts.put_owner, 254, 255, None, None)
        self.refuse(NotValid, self.accounts.put_owner, 0, 0, None, None)
        self.refuse(Missing, self.accounts.put_owner, 1, 1, None, None)
        self.refuse(LoopFound, self.accounts.put_owner, 20, 255, None, None)
        self.accounts.put_owner(self.store, 255, 0, None, 7)
        self.accounts.drop_owner(self.store, 140)
        self.accounts.put_owner(self.store, 1, 255, None, None)
        self.refuse(TooMany, self.accounts.put_owner, 140, 0, None, None)
        self.assertEqual(len(self.accounts.list_owners()), 9)
        self.assert_counted(self.accounts)

    def test_what_is_charged_is_not_compared_with_new_limits(self):
        self.start((1, 0, None, None), (2, 0, 3, 1))
        self.add_file("main", "a", [1] * 96, owner=1)
        self.accounts = Accounts(self.store)
        self.accounts.put_owner(self.store, 1, 0, 0, 0)
        self.accounts.put_owner(self.store, 1, 2, 3, 0)
        self.assertEqual((self.accounts.usage(1), self.accounts.usage(2)), ((4, 1), (4, 1)))
        self.refuse_check(self.accounts.check_charge, 1, 1, 0)

    def test_no_space(self):
        self.start(*[(owner, 0, None, None) for owner in (1, 2, 3, 4)])
        make_volume(self.store, None, "b")
        commit(self.store)
        for change in (
                lambda store, accounts: accounts.put_owner(store, 9, 1, 5, 5),
                lambda store, accounts: accounts.put_owner(store, 2, 1, 5, 5),
                lambda store, accounts: accounts.drop_owner(store, 1)):
            self.assertGreater(self.assert_needs_room(self.store, self.counting(change)), 1)


class DropTest(OwnerCase):

    def test_removing_owners(self):
        self.start((1, 0, 5, 5), (2, 1, 5, 5), (3, 1, 5, 5))
        for owner in (4, 255):
            self.refuse(Missing, self.accounts.drop_owner, owner)
        self.refuse(NotEmpty, self.accounts.drop_owner, 1)
        self.assertIs(self.accounts.drop_owner(self.store, 2), None)
        self.assertEqual([owner for owner, _ in self.owner_items()], [1, 3])
        self.refuse(Missing, self.accounts.drop_owner, 2)
        self.refuse(NotEmpty, self.accounts.drop_owner, 1)
        self.accounts.put_owner(self.store, 3, 0, None, None)
        self.accounts.drop_owner(self.store, 1)
        self.assertEqual(self.accounts.list_owners(), [(0, None, None, None), (3, 0, None, None)])
        self.assert_counted(self.accounts)
        self.assertEqual((self.accounts.chain(1), self.accounts.is_registered(1)), ([1, 0], False))

    def test_removing_an_owner_takes_one_item(self):
        self.start((1, 0, 5, 5), (2, 1, 5, 5), (3, 1, 5, 5))
        commit(self.store)

        def by_hand(store, owner):
            table, _ = take(store, store.table, (0, 5, owner))
            store.use_table(table)

        self.assert_same_change(self.store, self.accounts.drop_owner, by_hand, 2)
        self.assert_uses()

    def test_owners_of_inodes(self):
        self.start((1, 0, None, None), (2, 1, None, None), (3, 0, None, None))
        self.add_file("main", None, [1] * 5, owner=2)
        self.give("main", 1, 1)
        self.accounts = Accounts(self.store)
        self.refuse(NotEmpty, self.accounts.drop_owner, 1)
        self.refuse(Busy, self.accounts.drop_owner, 2)
        self.accounts.put_owner(self.store, 2, 0, None, None)
        self.refuse(Busy, self.accounts.drop_owner, 1)
        self.accounts.drop_owner(self.store, 3)
        self.accounts.add_charge(2, -2, -1)
        self.accounts.drop_owner(self.store, 2)

    def test_inodes_of_those_below_and_of_snapshots_do_not_count(self):
        self.start((1, 0, None, None), (2, 1, None, None))
        make_volume(self.store, None, "b")
        self.add_file("b", "a", [1] * 5, owner=1)
        take_snapshot(self.store, "b", "s")
        accounts = Accounts(self.store)
        clone_snapshot(self.store, accounts, "s", "c")
        accounts.put_owner(self.store, 2, 0, None, None)
        self.accounts = accounts
        self.refuse(Busy, accounts.drop_owner, 1)
        drop_volume(self.store, accounts, "c")
        self.refuse(Busy, accounts.drop_owner, 1)
        self.give("b", 2, 2)
        accounts.apply_change({1: (2, 1)}, {2: (2, 1)})
        self.assertEqual(accounts.usage(2), (2, 1))
        accounts.drop_owner(self.store, 1)
        self.assert_counted(accounts)

    def test_removing_with_the_reserve_0(self):
        self.start(*[(owner, 0, None, None) for owner in range(1, 9)])
        for number in range(7):
            make_volume(self.store, None, "v" + str(number))
        commit(self.store)
        while self.store.free() > 20:
            self.store.make([0] * 32)
        saved = self.store.saved()
        for owner in range(1, 9):
            Accounts(self.store).drop_owner(self.store, owner)
            self.store.restore(saved)


class UsageTest(OwnerCase):

    def start_with_files(self):
        """Begin with owners below each other, and with files, orphans and snapshots of theirs."""
        self.start((1, 0, None, None), (2, 1, None, None), (3, 2, None, None), (4, 0, None, None))
        self.first = self.add_file("main", "a", [1] * 64, owner=3)
        self.add_file("main", "b", [1] * 32, owner=2)
        self.add_file("main", None, [1] * 96, owner=1)
        self.add_file("main", "c", [0] * 96, owner=4)
        self.other = self.add_file("main", "d", [1] * 32, owner=9)
        take_snapshot(self.store, "main", "s")
        make_volume(self.store, None, "b")
        self.add_file("b", "a", [1], owner=3)
        commit(self.store)
        self.accounts = Accounts(self.store)

    def test_the_charge_of_owners(self):
        self.start_with_files()
        expected = {0: (16, 8), 1: (11, 4), 2: (7, 3), 3: (5, 2), 4: (1, 1), 9: (2, 1), 5: (0, 0), 255: (0, 0)}
        self.assertEqual({owner: self.accounts.usage(owner) for owner in expected}, expected)

    def test_shared_blocks_are_charged_to_each_inode(self):
        self.start_with_files()
        root = share_range(self.store, prepare_root(self.store, "main"), self.first, 0, self.other, 1, 2)
        set_root(self.store, "main", root)
        accounts = Accounts(self.store)
        self.assertEqual((accounts.usage(9), accounts.usage(3)), ((4, 1), (5, 2)))
        self.assertEqual(charge_of(self.store, root, self.other), 4)

    def test_charges_are_added(self):
        self.start_with_files()
        self.assertIs(self.accounts.add_charge(3, 5, 2), None)
        self.accounts.add_charge(3, -1, 0)
        self.accounts.add_charge(77, 4, 1)
        expected = {0: (24, 11), 1: (15, 6), 2: (11, 5), 3: (9, 4), 4: (1, 1), 9: (2, 1), 77: (4, 1)}
        self.assertEqual({owner: self.accounts.usage(owner) for owner in expected}, expected)
        self.accounts.add_charge(77, -4, -1)
        self.assertEqual(self.accounts.usage(77), (0, 0))

    def test_changes_are_applied(self):
        self.start_with_files()
        removed, added = {3: (2, 1), 9: (2, 1)}, {4: (5, 2), 3: (1, 1), 8: (7, 1)}
        self.assertIs(self.accounts.apply_change(removed, added), None)
        expected = {0: (25, 10), 1: (10, 4), 3: (4, 2), 4: (6, 3), 9: (0, 0), 8: (7, 1)}
        self.assertEqual({owner: self.accounts.usage(owner) for owner in expected}, expected)
        self.assertEqual((removed, added), ({3: (2, 1), 9: (2, 1)}, {4: (5, 2), 3: (1, 1), 8: (7, 1)}))

    def test_limits_are_not_checked_by_what_adds(self):
        self.start((1, 0, 0, 0))
        self.accounts.add_charge(1, 5, 5)
        self.accounts.apply_change({}, {1: (5, 5)})
        self.assertEqual(self.accounts.usage(1), (10, 10))

    def test_charges_follow_the_parents(self):
        self.start_with_files()
        self.accounts.put_owner(self.store, 3, 4, None, None)
        self.assertEqual([self.accounts.usage(owner) for owner in (1, 2, 3, 4)], [(6, 2), (2, 1), (5, 2), (6, 3)])
        self.assert_counted(self.accounts)

    def test_reading_gives_new_lists(self):
        self.start_with_files()
        self.accounts.list_owners().append(1)
        self.accounts.chain(3).append(1)
        self.assertEqual(len(self.accounts.list_owners()), 5)
        self.assertEqual(self.accounts.chain(3), [3, 2, 1, 0])

    def test_the_charges_of_an_object_do_not_follow_the_store(self):
        self.start_with_files()
        before = usages(self.accounts)
        self.add_file("main", "e", [1] * 40, owner=1)
        self.assertEqual(usages(self.accounts), before)
        self.accounts.add_charge(1, 3, 1)
        self.assert_counted(self.accounts)


class LimitTest(OwnerCase):

    def start_with_limits(self):
        """Begin with 3 below 2 below 1, of which 1 and 2 have limits; 3 is charged 4 for 2 inodes, 1 then 6 for 3."""
        self.start((1, 0, 10, 4), (2, 1, 5, None), (3, 2, None, None), (4, 0, None, 0))
        self.accounts.add_charge(3, 4, 2)
        self.accounts.add_charge(1, 2, 1)
        self.accounts.add_charge(0, 1000, 1000)

    def test_each_owner_of_the_chain_is_looked_at(self):
        self.start_with_limits()
        check = self.accounts.check_charge
        for given in (
                (3, 1, 0), (3, 1, 1), (2, 1, 0), (1, 4, 1), (1, 4, 0), (1, 0, 1), (4, 100000, 0), (0, 10 ** 9, 10 ** 9),
                (9, 10 ** 9, 10 ** 9)):
            self.assertIs(check(*given), None)
        for given in (
                (3, 2, 0), (2, 2, 0), (3, 0, 2), (2, 0, 2), (1, 5, 0), (1, 0, 2), (1, 5, 2), (3, 1, 2), (4, 0, 1),
                (4, 5, 1)):
            self.refuse_check(check, *given)

    def test_negative_numbers(self):
        self.start_with_limits()
        check = self.accounts.check_charge
        self.accounts.put_owner(self.store, 1, 0, 0, 0)
        for given in ((3, 0, 0), (3, -1, 0), (3, 0, -1), (3, -4, -2), (3, -100, -100), (1, 0, 0)):
            self.assertIs(check(*given), None)
        for given in ((3, 1, 0), (3, 0, 1), (3, -1, 1), (3, 1, -1)):
            self.refuse_check(check, *given)
        self.accounts.put_owner(self.store, 1, 0, None, 0)
        self.assertIs(check(3, 1, -1), None)
        self.refuse_check(check, 3, -1, 1)
        self.accounts.put_owner(self.store, 1, 0, 0, None)
        self.assertIs(check(3, -1, 1), None)
        self.refuse_check(check, 3, 1, -1)

    def test_limits_at_their_ends(self):
        for limit, more, is_refused in (
                (0, 1, True), (0, 0, False), (1, 1, False), (1, 2, True), (100000, 100000, False),
                (100000, 100001, True), (None, 10 ** 9, False)):
            self.start((1, 0, limit, None), (2, 0, None, limit))
            for given in ((1, more, 0), (2, 0, more)):
                if is_refused:
                    self.refuse_check(self.accounts.check_charge, *given)
                else:
                    self.assertIs(self.accounts.check_charge(*given), None)

    def test_changes_between_owners(self):
        self.start_with_limits()
        check = self.accounts.check_change
        for removed, added in (
                ({}, {}), ({3: (4, 2)}, {2: (4, 2)}), ({1: (2, 1)}, {1: (6, 2)}), ({3: (4, 2)}, {1: (8, 3)}),
                ({0: (9, 9)}, {3: (1, 1)}), ({3: (4, 2)}, {9: (400, 200)}), ({1: (2, 1)}, {3: (1, 1)}),
                ({3: (4, 2), 1: (2, 1)}, {3: (5, 4)})):
            self.assertIs(check(removed, added), None)
        for removed, added in (
                ({}, {3: (2, 0)}), ({1: (2, 1)}, {3: (2, 1)}), ({1: (2, 1)}, {2: (0, 3)}), ({0: (9, 9)}, {3: (2, 1)}),
                ({3: (4, 2)}, {4: (1, 1)}), ({1: (2, 1)}, {1: (7, 1)}), ({3: (1, 1)}, {3: (1, 1), 1: (0, 2)}),
                ({9: (100, 100)}, {2: (1, 1), 3: (1, 0)})):
            self.refuse_check(check, removed, added)

    def test_limits_below_what_is_charged_already(self):
        self.start_with_limits()
        self.accounts.put_owner(self.store, 1, 0, 3, 1)
        check = self.accounts.check_change
        for removed, added in (
                ({3: (4, 2)}, {2: (4, 2)}), ({3: (4, 2)}, {1: (4, 2)}), ({3: (4, 2)}, {3: (3, 1)}), ({3: (1, 1)}, {})):
            self.assertIs(check(removed, added), None)
        for removed, added in (
                ({3: (4, 2)}, {2: (5, 2)}), ({3: (4, 2)}, {1: (4, 3)}), ({9: (1, 1)}, {3: (1, 0)}), ({}, {3: (0, 1)})):
            self.refuse_check(check, removed, added)

    def test_many_changes_against_a_plain_count(self):
        for seed in range(20):
            chosen = random.Random(seed)
            parents = {}
            for owner in range(1, 7):
                parents[owner] = chosen.choice([0, *parents])
            limits = {owner: [chosen.choice((None, 5, 20, 60)) for _ in range(2)] for owner in parents}
            self.start(*[(owner, parents[owner], *limits[owner]) for owner in parents])
            own = {0: (1, 1)}
            for _ in range(30):
                removed, added = ({
                    owner: (chosen.randrange(9), chosen.randrange(4)) for owner in chosen.sample(range(9), 2)}
                    for _ in range(2))
                after = summed(own, removed, added)
                before_sums = [in_chains(parents, own, owner) for owner in range(9)]
                after_sums = [in_chains(parents, after, owner) for owner in range(9)]
                is_refused = any(
                    limits[owner][at] is not None and after_sums[owner][at] > before_sums[owner][at]
                    and after_sums[owner][at] > limits[owner][at] for owner in parents for at in (0, 1))
                if is_refused:
                    self.refuse_check(self.accounts.check_change, removed, added)
                else:
                    self.assertIs(self.accounts.check_change(removed, added), None)
                    self.accounts.apply_change(removed, added)
                    own = after
                    self.assertEqual([self.accounts.usage(owner) for owner in range(9)], after_sums)


def summed(own, removed, added):
    """What belongs to each owner itself after a change."""
    after = {}
    for owner in {*own, *removed, *added}:
        after[owner] = tuple(
            own.get(owner, (0, 0))[at] - removed.get(owner, (0, 0))[at] + added.get(owner, (0, 0))[at] for at in (0, 1))
    return after


def in_chains(parents, own, owner):
    """The sum of what belongs to the owners whose chain contains this one."""
    found = [0, 0]
    for other, (charge, inodes) in own.items():
        while other not in (0, owner):
            other = parents.get(other, 0)
        if other == owner:
            found = [found[0] + charge, found[1] + inodes]
    return tuple(found)


class UncheckedTest(OwnerCase):

    def test_parents_that_lead_back_end_all_the_same(self):
        self.start((1, 0, None, None), (2, 1, None, None), (3, 0, None, None))
        for parent in (1, 2):
            self.store.use_table(put(self.store, self.store.table, (0, 5, 1), (parent, 0, 0, 0)))
            accounts = Accounts(self.store)
            for owner in (1, 2):
                with self.assertRaises(BadImage):
                    accounts.chain(owner)
            self.assertEqual(accounts.chain(3), [3, 0])

    def test_units_without_a_record_are_counted_all_the_same(self):
        self.start()
        root = prepare_root(self.store, "main")
        pointer = self.store.make([1] * 32)
        root, _ = take(self.store, put(self.store, root, (1, 3, 0), (*pointer, 0, 0)), (1, 1, 0))
        set_root(self.store, "main", root)
        self.assertEqual(Accounts(self.store).usage(0), (1, 0))


class CountedTest(OwnerCase):

    def test_an_object_that_is_made_anew_shows_the_same(self):
        self.start((1, 0, None, 7), (2, 1, 50, None))
        own = {}
        for volume in ("main", "b", "c"):
            if volume != "main":
                make_volume(self.store, self.accounts, volume)
            for number in range(3):
                owner = number % 3
                inode = self.add_file(volume, chr(97 + number), [1] * (number * 40), owner=owner)
                charge = charge_of(self.store, prepare_root(self.store, volume), inode)
                self.accounts.add_charge(owner, charge, 1)
                self.assert_counted(self.accounts)
        for volume in ("main", "b", "c"):
            for owner, (charge, inodes) in charges_of(self.shown(volume)).items():
                before = own.get(owner, (0, 0))
                own[owner] = (before[0] + charge, before[1] + inodes)
        self.assertEqual(self.accounts.usage(2), own[2])
        self.assertEqual(self.accounts.usage(1), tuple(own[1][at] + own[2][at] for at in (0, 1)))
        commit(self.store)
        self.assert_counted(self.accounts)


if __name__ == "__main__":
    unittest.main()
