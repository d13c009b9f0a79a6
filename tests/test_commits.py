"""Commits: points [39] to [42], [15] and [25]."""

import unittest

from helpers import checked_items, counted_uses, fill, fresh_store, state_of, store_with, uses_of
from laminae.commits import commit, commit_steps
from laminae.disk import Disk
from laminae.errors import PowerOff
from laminae.heads import log_mark, present_head
from laminae.space import Space
from laminae.store import Store
from laminae.trees import put, release_pointer, take


def words_of(number):
    """32 different words."""
    return [number * 100 + k for k in range(32)]


def expected_steps(store):
    """The steps of a commit of a store, written out by [39]."""
    steps = []
    for number in range(store.disk.blocks):
        if store.space.is_new(number):
            words = store.read((number, 0))
            steps += [("write", 4 * number + at, words[8 * at:8 * at + 8]) for at in range(4)]
    generation = store.head.generation + 1
    head = [generation, *store.table, 4, store.disk.blocks, 0, 0, generation]
    return steps + [("flush",), ("write", generation % 2, head), ("flush",)]


def put_one(store, number, kind=1):
    """Put an item into the table, with a new block of data if its kind asks for one."""
    value = (*store.make(words_of(number)), 0, 0) if kind == 3 else (number, 0, 0, 0)
    old = None
    for key, before in checked_items(store, store.table)[0]:
        if key == (number, kind, 0) and kind == 3:
            old = before[:2]
    store.use_table(put(store, store.table, (number, kind, 0), value))
    if old is not None:
        release_pointer(store, old, False)


def all_of(store):
    """The items of the table, and the cells of each block of data that they lead to."""
    items, _ = checked_items(store, store.table)
    return items, [store.read(value[:2]) for key, value in items if key[1] == 3]


def opened(disk):
    """The store of a disk as its present head shows it."""
    head = present_head(disk)
    store = Store(disk, head, Space([1] * disk.blocks))
    store = Store(disk, head, Space(counted_uses(store, [(head.table, True)])))
    store.use_reserve(0)
    return store


class StepsTest(unittest.TestCase):

    def test_the_steps_of_the_first_commit(self):
        store = fresh_store()
        self.assertEqual(commit_steps(store), [
            ("write", 20, [1, 0, 5, 1, 0, 0, 0, 0]), ("write", 21, [0] * 8), ("write", 22, [0] * 8),
            ("write", 23, [0] * 8), ("flush",), ("write", 1, [1, 5, 1, 4, 96, 0, 0, 1]), ("flush",)])

    def test_many_new_blocks_in_ascending_order(self):
        for blocks in (96, 256):
            store = fresh_store(blocks)
            dropped = [store.make(words_of(number)) for number in range(6)]
            for number in range(30):
                put_one(store, number, 1 if number % 3 else 3)
            store.make(words_of(70))
            for pointer in dropped[:3]:
                store.drop(pointer)
            put_one(store, 99, 3)
            steps = commit_steps(store)
            self.assertEqual(steps, expected_steps(store))
            self.assertEqual(len(steps), 4 * len(store.new_blocks()) + 3)
            self.assertGreater(len(store.new_blocks()), 15)
            sectors = [step[1] for step in steps[:-3]]
            self.assertEqual(sectors, sorted(sectors))

    def test_heads_alternate_between_their_places(self):
        store = fresh_store()
        for generation in range(1, 6):
            put_one(store, generation)
            steps = commit_steps(store)
            number, birth = store.table
            self.assertEqual(birth, generation)
            head = [generation, number, birth, 4, 96, 0, 0, generation]
            self.assertEqual(steps[-3:], [("flush",), ("write", generation % 2, head), ("flush",)])
            commit(store)

    def test_steps_are_not_performed(self):
        store = fresh_store()
        put_one(store, 1)
        store.disk.write(30, [1] * 8)
        store.disk.fail_after(0)
        before, lasting = state_of(store), store.disk.lasting()
        steps = commit_steps(store)
        self.assertEqual((state_of(store), store.disk.lasting()), (before, lasting))
        self.assertEqual((store.head.generation, store.head.table), (0, (0, 0)))
        self.assertEqual(commit_steps(store), steps)

    def test_what_is_returned_is_not_changed_later(self):
        store = fresh_store()
        steps = commit_steps(store)
        kept = [(step[0], step[1], list(step[2])) if len(step) == 3 else step for step in steps]
        for step in commit_steps(store):
            if len(step) == 3:
                step[2][0] = 77
        commit(store)
        put_one(store, 1)
        self.assertEqual(steps, kept)
        self.assertEqual(store.disk.lasting()[20:24], [[1, 0, 5, 1, 0, 0, 0, 0], [0] * 8, [0] * 8, [0] * 8])

    def test_the_forms_of_steps(self):
        for step in commit_steps(fresh_store()):
            self.assertIsInstance(step, tuple)
            if step[0] == "write":
                self.assertIsInstance(step[2], list)
                self.assertEqual((len(step), len(step[2])), (3, 8))


class NothingToCommitTest(unittest.TestCase):

    def committed(self):
        """A store after two commits."""
        store = fresh_store()
        commit(store)
        put_one(store, 1)
        commit(store)
        return store

    def test_there_is_nothing_to_commit(self):
        store = self.committed()
        before, lasting, head = state_of(store), store.disk.lasting(), store.head
        self.assertEqual(commit_steps(store), [])
        self.assertIs(commit(store), False)
        self.assertEqual((state_of(store), store.disk.lasting()), (before, lasting))
        self.assertIs(store.head, head)
        self.assertEqual(store.generation(), 3)

    def test_no_power_is_needed_to_write_nothing(self):
        store = self.committed()
        store.disk.fail_after(0)
        self.assertIs(commit(store), False)
        self.assertEqual(commit_steps(store), [])
        with self.assertRaises(PowerOff):
            store.disk.flush()

    def test_pending_blocks_stay_pending_if_there_is_nothing_to_commit(self):
        store = self.committed()
        extra = store.make(words_of(1))
        store.drop(extra)
        self.assertIs(commit(store), False)
        store = store_with(9)
        store.drop((8, 1))
        self.assertEqual((commit_steps(store), store.space.pending()), ([], 1))
        self.assertIs(commit(store), False)
        self.assertEqual(store.space.pending(), 1)

    def test_the_mark_of_the_log_is_the_present_generation(self):
        for sector in (4, 11, 19):
            for mark in (0, 1, 2):
                store = self.committed()
                store.disk.write(sector, [9] * 7 + [mark])
                if mark < 2:
                    self.assertEqual(commit_steps(store), [])
                    continue
                table = store.table
                self.assertEqual(commit_steps(store), expected_steps(store))
                self.assertEqual(len(commit_steps(store)), 3)
                self.assertIs(commit(store), True)
                self.assertEqual((store.head.generation, store.head.table, store.table), (3, table, table))
                self.assertEqual(log_mark(store.disk), 2)
                self.assertIs(commit(store), False)

    def test_a_table_that_changed_without_a_new_block(self):
        store = self.committed()
        store.use_table((5, 1))
        self.assertEqual(commit_steps(store), expected_steps(store))
        self.assertEqual(len(commit_steps(store)), 3)
        self.assertIs(commit(store), True)
        self.assertEqual(present_head(store.disk).table, (5, 1))


class CommitTest(unittest.TestCase):

    def test_what_is_there_afterwards(self):
        store = fresh_store(reserve=20)
        put_one(store, 1)
        put_one(store, 2, 3)
        commit(store)
        before = store.head
        for number in (2, 3, 4, 5):
            put_one(store, number, 3)
        table, items, head = store.table, all_of(store), expected_steps(store)[-2][2]
        uses, pending, free = uses_of(store), store.space.pending(), store.free()
        contents = {number: store.read((number, 0)) for number in range(5, 96) if uses[number]}
        self.assertGreater(pending, 0)
        self.assertIs(commit(store), True)
        self.assertEqual((store.head.generation, store.head.table, store.head.blocks), (2, table, 96))
        self.assertEqual((store.head.sector(), store.generation(), store.table), (head, 3, table))
        self.assertEqual((before.generation, before.table[1]), (1, 1))
        self.assertEqual((store.new_blocks(), store.space.pending(), store.free()), ([], 0, free + pending))
        self.assertEqual(uses_of(store), uses)
        self.assertEqual([store.space.is_held(number) for number in range(96)], [many > 0 for many in uses])
        self.assertEqual({number: store.read((number, 0)) for number in contents}, contents)
        self.assertEqual((all_of(store), store.reserve, store.disk.waiting()), (items, 20, []))
        self.assertEqual(present_head(store.disk).sector(), head)
        self.assertEqual(store.disk.lasting(), store.disk.image())

    def test_commits_in_succession_against_a_dict(self):
        store, expected = fresh_store(), {}
        for at in range(60):
            number = at * 7 % 23
            if at % 5 == 4 and (number, 1, 0) in expected:
                table, _ = take(store, store.table, (number, 1, 0))
                store.use_table(table)
                del expected[(number, 1, 0)]
            else:
                put_one(store, number)
                expected[(number, 1, 0)] = (number, 0, 0, 0)
            if at % 3 == 0:
                self.assertIs(commit(store), True)
                self.assertIs(commit(store), False)
                self.assertEqual(all_of(opened(store.disk))[0], sorted(expected.items()))
            self.assertEqual(uses_of(store), counted_uses(store, [(store.table, True)]))

    def test_a_commit_needs_no_free_block(self):
        store = fresh_store(reserve=96)
        fill(store, 0)
        self.assertIs(commit(store), True)
        self.assertEqual((store.free(), store.reserve), (0, 96))


class PowerTest(unittest.TestCase):

    def test_the_power_is_off(self):
        for change in (False, True):
            store = fresh_store()
            commit(store)
            if change:
                put_one(store, 1)
            store.disk.fail_after(0)
            with self.assertRaises(PowerOff):
                store.disk.flush()
            for function in (commit_steps, commit):
                with self.assertRaises(PowerOff):
                    function(store)
            store.disk.cut([])
            self.assertEqual(len(commit_steps(store)) > 0, change)

    def test_a_failure_after_the_last_step_comes_too_late(self):
        store = fresh_store()
        store.disk.fail_after(len(commit_steps(store)))
        self.assertIs(commit(store), True)
        with self.assertRaises(PowerOff):
            store.disk.flush()

    def changed_store(self):
        """A store whose second commit has new blocks, blocks that change, and blocks that are given up."""
        store = fresh_store()
        for number in range(12):
            put_one(store, number, 1 if number % 4 else 3)
        commit(store)
        put_one(store, 4, 3)
        put_one(store, 20, 3)
        table, _ = take(store, store.table, (7, 1, 0))
        store.use_table(table)
        return store

    def interrupted(self, at):
        """A store whose commit was interrupted ahead of this step, with the items before and after it."""
        store = self.changed_store()
        after = all_of(store)
        before = all_of(opened(disk_like(store.disk)))
        store.disk.fail_after(at)
        with self.assertRaises(PowerOff):
            commit(store)
        return store, before, after

    def test_a_power_failure_ahead_of_each_step(self):
        many = len(commit_steps(self.changed_store()))
        self.assertGreater(many, 20)
        for at in range(many):
            store, _, _ = self.interrupted(at)
            waiting = len(store.disk.waiting())
            self.assertEqual(waiting, [at, 0, 1][(at > many - 3) + (at == many - 1)])
            for choices in self.cuts(waiting):
                store, before, after = self.interrupted(at)
                store.disk.cut(choices)
                found = opened(store.disk)
                expected = after if at == many - 1 and choices == [8] else before
                self.assertEqual(all_of(found), expected, (at, choices))
                self.assertEqual(found.head.generation, 2 if expected == after else 1)

    def cuts(self, waiting):
        """Choices for so many waiting writes: all alike, those of one write alone, and less than there are."""
        found = [[choice] * waiting for choice in range(9)]
        found += [[8] * at + [choice] for at in range(waiting) for choice in (0, 1, 3, 7, 8)]
        return found + [[]]

    def test_the_same_commit_again_after_a_failure(self):
        many = len(commit_steps(self.changed_store()))
        for at in range(many):
            for choice in (0, 1, 4, 7):
                store, before, after = self.interrupted(at)
                store.disk.cut([choice] * at)
                store = opened(store.disk)
                self.assertEqual(all_of(store), before)
                put_one(store, 4, 3)
                put_one(store, 20, 3)
                table, _ = take(store, store.table, (7, 1, 0))
                store.use_table(table)
                self.assertIs(commit(store), True)
                self.assertEqual(all_of(opened(store.disk)), after)
                self.assertEqual(present_head(store.disk).generation, 2)

    def test_reached_blocks_are_not_written_over(self):
        store = self.changed_store()
        reached = counted_uses(store, [(store.head.table, True)])
        sectors = {step[1] for step in commit_steps(store)[:-3]}
        self.assertEqual([number for number, many in enumerate(reached) if many and 4 * number in sectors], [])


def disk_like(disk):
    """A disk with what lasts on another one."""
    found = Disk(disk.blocks)
    for sector, words in enumerate(disk.lasting()):
        found.write(sector, words)
    found.flush()
    return found


if __name__ == "__main__":
    unittest.main()
