"""Making, opening and recovery: points [99] to [103], and [20] and [22] for the uses that opening counts."""

import pickle
import random
import unittest

from helpers import VolumeCase, counted_uses, fill, root_of, shown, state_of, table_items, uses_of, without_orphans
from images import disk_of, inner, leaf, with_sector, with_words, words_of
from laminae.commits import commit, commit_steps
from laminae.data import share_range
from laminae.disk import Disk, disk_from
from laminae.errors import BadImage, LaminaError, NotValid, PowerOff
from laminae.handles import find_orphans, remove_orphan
from laminae.heads import log_mark, present_head
from laminae.intents import Log, play
from laminae.mounts import count_uses, make_disk, mount, open_disk, recovery_step
from laminae.owners import Accounts
from laminae.space import Space
from laminae.store import Store
from laminae.volumes import (
    clone_snapshot, drop_volume, list_volumes, make_volume, prepare_root, release_step, roll_back, set_root,
    take_snapshot, waiting_roots)
from laminae.words import name_word

MAIN, A, B = name_word("main"), name_word("a"), name_word("b")
ROOT_RECORD = ((1, 1, 0), (2, 1, 0, 0))


class MakeTest(unittest.TestCase):

    def test_the_sectors(self):
        for blocks in (96, 97, 256):
            disk = make_disk(blocks)
            expected = [[0] * 8 for _ in range(4 * blocks)]
            expected[1] = [1, 5, 1, 4, blocks, 0, 0, 1]
            expected = with_words(expected, 5, leaf(5, 1, [((0, 4, MAIN), (6, 1, 1, 0))]))
            expected = with_words(expected, 6, leaf(6, 1, [ROOT_RECORD]))
            self.assertIsInstance(disk, Disk)
            self.assertEqual(disk.blocks, blocks)
            self.assertEqual((disk.lasting(), disk.image(), disk.waiting()), (expected, expected, []))
            head = present_head(disk)
            self.assertEqual((head.generation, head.table, head.blocks), (1, (5, 1), blocks))

    def test_sizes_that_are_not_valid(self):
        for blocks in (95, 257, 0, -96, 10 ** 20, True, None, "96", [96]):
            with self.assertRaises(NotValid):
                make_disk(blocks)

    def test_what_a_new_disk_shows(self):
        store = mount(make_disk(96))
        self.assertEqual(list_volumes(store), [("main", True, "")])
        self.assertEqual(shown(store, root_of(store, "main")), [ROOT_RECORD])
        self.assertEqual((waiting_roots(store), Accounts(store).list_owners()), ([], [(0, None, None, None)]))
        self.assertEqual((store.free(), store.reserve, store.generation()), (89, 60, 2))


class OpenTest(unittest.TestCase):

    def refuse(self, disk):
        before = disk.image()
        for call in (open_disk, mount):
            with self.assertRaises(BadImage):
                call(disk)
        with self.assertRaises(BadImage):
            count_uses(disk, present_head(disk))
        self.assertEqual((disk.image(), disk.waiting()), (before, []))

    def assert_uses(self, disk, used):
        """Check the uses of the blocks that have some, in a dict, and that opening writes nothing."""
        before = disk.image()
        uses = [1] * 5 + [used.get(number, 0) for number in range(5, disk.blocks)]
        self.assertEqual(count_uses(disk, present_head(disk)), uses)
        disk.fail_after(0)
        store = open_disk(disk)
        self.assertEqual((uses_of(store), disk.image(), disk.waiting()), (uses, before, []))
        self.assertEqual([store.space.is_held(at) for at in range(disk.blocks)], [use > 0 for use in uses])

    def test_the_store(self):
        disk = disk_of({9: leaf(9, 4, [])}, (9, 4), 7)
        store = open_disk(disk)
        self.assertIs(store.disk, disk)
        self.assertEqual((store.head.generation, store.head.table, store.head.blocks), (7, (9, 4), 96))
        self.assertEqual((store.table, store.reserve, store.new_blocks(), store.generation()), ((9, 4), 60, [], 8))
        self.assert_uses(disk, {9: 1})

    def test_pointers_in_leaves(self):
        items = [((0, kind, rest), (10 * kind + rest, 1, 0, 0)) for kind, rest in ((3, 0), (4, 0), (5, 0), (6, 0))]
        blocks = {5: leaf(5, 1, items), 30: [7] * 32, 40: leaf(40, 1, []), 60: leaf(60, 1, [])}
        self.assert_uses(disk_of(blocks, (5, 1)), {5: 1, 30: 1, 40: 1, 60: 1})
        items = [((1, kind, 0), (9, 1, 0, 0)) for kind in (0, 1, 2, 5)]
        self.assert_uses(disk_of({5: leaf(5, 1, items)}, (5, 1)), {5: 1})

    def test_shared_nodes_and_units(self):
        blocks = {
            5: inner(5, 1, [((0, 4, 1), (6, 1)), ((0, 4, 4), (7, 1))]),
            6: leaf(6, 1, [((0, 4, 1), (8, 1, 0, 0)), ((0, 4, 2), (8, 1, 0, 0)), ((0, 4, 3), (9, 1, 0, 0))]),
            7: leaf(7, 1, [((0, 4, 4), (9, 1, 0, 0)), ((0, 6, 1), (8, 1, 0, 0))]),
            8: leaf(8, 1, [((2, 3, 0), (20, 1, 0, 0)), ((2, 3, 1), (20, 1, 0, 0)), ((2, 3, 2), (21, 1, 0, 0))]),
            9: leaf(9, 1, [((2, 3, 0), (20, 1, 0, 0)), ((2, 3, 5), (22, 1, 0, 0))])}
        # The pointers in 8 and 9 count once, although several pointers lead to them.
        self.assert_uses(disk_of(blocks, (5, 1)), {5: 1, 6: 1, 7: 1, 8: 3, 9: 2, 20: 3, 21: 1, 22: 1})

    def test_blocks_that_lead_back(self):
        items = [((0, 4, 1), (5, 1, 0, 0)), ((0, 6, 1), (5, 1, 0, 0))]
        self.assert_uses(disk_of({5: leaf(5, 1, items)}, (5, 1)), {5: 3})
        blocks = {5: inner(5, 1, [((0, 4, 1), (6, 1))]), 6: inner(6, 1, [((0, 4, 1), (5, 1)), ((0, 4, 2), (6, 1))])}
        disk = disk_of(blocks, (5, 1))
        self.assert_uses(disk, {5: 2, 6: 2})

    def test_numbers_of_pointers(self):
        for size in (96, 256):
            for number in (0, 1, 4, size, 255 + (size == 256), 10 ** 20):
                for kind in (3, 4, 6):
                    self.refuse(disk_of({5: leaf(5, 1, [((0, kind, 1), (number, 1, 0, 0))])}, (5, 1), 1, size))
                blocks = {5: inner(5, 1, [((0, 4, 1), (6, 1)), ((0, 4, 2), (number, 1))]), 6: leaf(6, 1, [])}
                self.refuse(disk_of(blocks, (5, 1), 1, size))
            for kind in (3, 4, 6):
                last = leaf(size - 1, 1, [])
                blocks = {5: leaf(5, 1, [((0, kind, 1), (size - 1, 1, 0, 0))]), size - 1: last}
                self.assert_uses(disk_of(blocks, (5, 1), 1, size), {5: 1, size - 1: 1})

    def test_blocks_that_are_no_nodes(self):
        good = leaf(9, 1, [((1, 1, 0), (2, 1, 0, 0)), ((1, 2, 0), (2, 1, 0, 0))])
        for at, word in ((0, 0), (0, 3), (1, 1), (1, 3), (1, 5), (2, 4), (2, 256), (3, 0), (4, 2), (18, 1), (31, 9)):
            words = good[:at] + [word] + good[at + 1:]
            for kind in (4, 6):
                self.refuse(disk_of({5: leaf(5, 1, [((0, kind, 1), (9, 1, 0, 0))]), 9: words}, (5, 1)))
            self.refuse(disk_of({5: inner(5, 1, [((1, 1, 0), (9, 1))]), 9: words}, (5, 1)))
            self.refuse(disk_of({9: words}, (9, 1)))
            # A block of data may have any words.
            disk = disk_of({5: leaf(5, 1, [((0, 3, 1), (9, 1, 0, 0))]), 9: words}, (5, 1))
            self.assert_uses(disk, {5: 1, 9: 1})
        for kind in (4, 6):
            self.assert_uses(
                disk_of({5: leaf(5, 1, [((0, kind, 1), (9, 1, 0, 0))]), 9: good}, (5, 1)), {5: 1, 9: 1})

    def test_blocks_with_two_roles(self):
        for first, second in ((3, 4), (3, 6), (4, 3), (6, 3)):
            items = [((0, first, 1), (9, 1, 0, 0)), ((1, second, 1), (9, 1, 0, 0))]
            self.refuse(disk_of({5: leaf(5, 1, items), 9: leaf(9, 1, [])}, (5, 1)))
        for number in (5, 6):
            blocks = {5: inner(5, 1, [((0, 3, 1), (6, 1))]), 6: leaf(6, 1, [((0, 3, 1), (number, 1, 0, 0))])}
            self.refuse(disk_of(blocks, (5, 1)))
        items = [((0, 4, 1), (9, 1, 0, 0)), ((1, 6, 1), (9, 1, 0, 0))]
        self.assert_uses(disk_of({5: leaf(5, 1, items), 9: leaf(9, 1, [])}, (5, 1)), {5: 1, 9: 2})

    def test_heads_that_are_not_valid(self):
        good = disk_of({9: leaf(9, 4, [])}, (9, 4), 7).image()
        for sector, words in (
                (1, [0] * 8), (1, [7, 9, 4, 5, 96, 0, 0, 7]), (1, [7, 4, 4, 4, 96, 0, 0, 7]),
                (1, [7, 9, 8, 4, 96, 0, 0, 7]), (0, [0] * 7 + [7]), (12, [0] * 7 + [8]),
                (1, [7, 96, 4, 4, 96, 0, 0, 7])):
            for call in (open_disk, mount):
                with self.assertRaises(BadImage):
                    call(disk_from(with_sector(good, sector, words)))

    def test_what_is_not_looked_at(self):
        items = [
            ((0, kind, 1), (number, birth, 0, 0)) for kind, number, birth in ((3, 8, 0), (4, 9, 0), (6, 9, 10 ** 20))]
        blocks = {5: leaf(77, 99, items), 9: leaf(200, 10 ** 20, [])}
        self.assert_uses(disk_of(blocks, (5, 1)), {5: 1, 8: 1, 9: 2})
        blocks = {5: inner(9, 1, [((7, 7, 7), (9, 10 ** 20))]), 9: leaf(9, 5, [])}
        self.assert_uses(disk_of(blocks, (5, 1)), {5: 1, 9: 1})

    def test_the_log_is_not_looked_at(self):
        disk = disk_of({9: leaf(9, 4, [])}, (9, 4), 7)
        disk.write(5, [1, 0, 1, 3, 99, 99, 99, 7])
        disk.flush()
        self.assert_uses(disk, {9: 1})

    def test_power_off(self):
        disk = make_disk(96)
        head = present_head(disk)
        disk.fail_after(0)
        with self.assertRaises(PowerOff):
            disk.flush()
        for call in (open_disk, mount, lambda disk: count_uses(disk, head)):
            with self.assertRaises(PowerOff):
                call(disk)


class RecoveryCase(VolumeCase):

    def start(self, blocks=256):
        """Begin with main, b and the snapshot s of main, in all of which there are orphans."""
        VolumeCase.start(self, blocks)
        make_volume(self.store, None, "b")
        self.add_file("main", None, [1] * 70, owner=3)
        self.add_file("main", "a", [2] * 70)
        self.add_file("main", None, [3] * 10, owner=4)
        take_snapshot(self.store, "main", "s")
        self.add_file("b", "a", [4] * 40)
        self.add_file("b", None, [5] * 40)
        self.add_file("main", None)
        commit(self.store)

    def log(self, *intents, generation=None):
        """Write records to the log."""
        log = Log(self.store.head.generation if generation is None else generation)
        for sector, words in log.append_records(list(intents)):
            self.store.disk.write(sector, words)
        self.store.disk.flush()

    def open(self):
        """Open the disk again."""
        self.store = open_disk(disk_from(self.store.disk.lasting()))

    def steps(self):
        """Do all steps; return their words, after the reserve and the disk were checked at each of them."""
        words = []
        while not words or words[-1] != "done":
            generation, before = self.store.head.generation, self.store.disk.image()
            self.store.use_reserve(len(words))
            words.append(recovery_step(self.store))
            self.assertEqual((self.store.reserve, self.store.disk.waiting()), (len(words) - 1, []))
            if words[-1] == "done":
                self.assertEqual(self.store.disk.image(), before)
            self.assertEqual(self.store.head.generation, generation + (words[-1] != "done"))
            self.assertEqual(commit_steps(self.store), [])
            self.assert_opened_again()
        return words

    def assert_opened_again(self):
        """Check that opening the disk gives the store that is in use."""
        again = open_disk(self.store.disk)
        again.use_reserve(self.store.reserve)
        self.assertEqual(state_of(again), state_of(self.store))
        self.assert_uses()

    def seen(self, store=None):
        """All that the store shows."""
        store = self.store if store is None else store
        rows = list_volumes(store)
        trees = [shown(store, root_of(store, row[0])) for row in rows]
        return rows, trees, waiting_roots(store), len(table_items(store))


class StepTest(RecoveryCase):

    def test_nothing_to_do(self):
        VolumeCase.start(self)
        self.add_file("main", "a", [1] * 40)
        take_snapshot(self.store, "main", "s")
        commit(self.store)
        self.assertEqual(self.steps(), ["done"])
        disk = self.store.disk
        disk.fail_after(0)
        self.assertEqual(recovery_step(mount(disk)), "done")

    def test_intents(self):
        self.start()
        intents = [(3, MAIN, 1, A), (6, B, 2, 0, 9, 9), (1, MAIN, 1, B, 2, 5), (10, MAIN, 3), (9, MAIN, 2, 9)]
        self.log(*intents)
        self.open()
        saved = self.store.saved()
        for intent in intents:
            play(self.store, intent)
        steps, table, seen = commit_steps(self.store), self.store.table, self.seen()
        self.store.restore(saved)
        before = self.store.disk.image()
        self.store.use_reserve(300)
        self.assertEqual(recovery_step(self.store), "intents")
        self.assertEqual((self.store.table, self.seen(), self.store.reserve), (table, seen, 300))
        for step in steps:
            if step[0] == "write":
                before[step[1]] = step[2]
        self.assertEqual(self.store.disk.lasting(), before)
        self.assertLess(log_mark(self.store.disk), self.store.head.generation)
        self.assert_opened_again()

    def test_the_order_of_the_steps(self):
        self.start()
        drop_volume(self.store, None, "s")
        take_snapshot(self.store, "b", "t")
        drop_volume(self.store, None, "t")
        commit(self.store)
        self.log((3, MAIN, 1, A))
        self.open()
        self.assertEqual(self.steps(), ["intents"] + ["orphans"] * 5 + ["pending"] * 2 + ["done"])
        self.assertEqual(find_orphans(self.store, "main") + find_orphans(self.store, "b"), [])
        self.assertEqual(self.store.free(), 256 - 5 - len([use for use in uses_of(self.store)[5:] if use]))

    def test_a_mark_without_a_whole_record(self):
        for words in ([0] * 7, [1, 0, 2, 4, 7, MAIN, 2], [2, 0, 1, 3, 10, MAIN, 2], [1, 1, 2, 0, 0, 0, 0]):
            for sector in (4, 19):
                if sector == 19 and words[0] == 1:
                    continue
                VolumeCase.start(self)
                self.add_file("main", "a", [1] * 40)
                commit(self.store)
                generation = self.store.head.generation
                self.store.disk.write(sector, words + [generation])
                self.store.disk.flush()
                self.open()
                before, table = self.seen(), self.store.table
                self.assertEqual(self.steps(), ["intents", "done"])
                self.assertEqual((self.seen(), self.store.table), (before, table))
                self.assertEqual(self.store.head.generation, generation + 1)
                self.assertEqual(log_mark(self.store.disk), generation)

    def test_records_of_an_older_generation(self):
        VolumeCase.start(self)
        self.add_file("main", "a", [1] * 40)
        commit(self.store)
        self.log((3, MAIN, 1, A), generation=self.store.head.generation - 1)
        self.open()
        before = self.seen()
        self.assertEqual(self.steps(), ["done"])
        self.assertEqual(self.seen(), before)

    def test_intents_that_cannot_be_played(self):
        self.start()
        for intents in (
                [(3, MAIN, 1, B)], [(3, MAIN, 1, A), (3, MAIN, 1, A)], [(3, name_word("s"), 1, A)], [(10, MAIN, 3)],
                [(9, A, 1, 0)]):
            again = pickle.loads(pickle.dumps(self.store.disk))
            log = Log(present_head(again).generation)
            for sector, words in log.append_records(intents):
                again.write(sector, words)
            again.flush()
            store = open_disk(again)
            for reserve in (0, 60):
                store.use_reserve(reserve)
                before = state_of(store)
                with self.assertRaises(BadImage):
                    recovery_step(store)
                self.assertEqual(state_of(store), before)
            with self.assertRaises(BadImage):
                mount(again)
            self.assertEqual((again.image(), again.waiting()), (before[-2], []))

    def test_words_that_are_no_intent(self):
        self.start()
        self.store.disk.write(4, [1, 0, 1, 3, 11, MAIN, 2, self.store.head.generation])
        self.store.disk.flush()
        for call in (recovery_step, lambda store: mount(store.disk)):
            before = state_of(self.store)
            with self.assertRaises(BadImage):
                call(self.store)
            self.assertEqual(state_of(self.store), before)

    def test_orphans(self):
        self.start()
        self.open()
        before = {name: self.shown(name) for name in ("main", "b", "s")}
        left = [("b", 3), ("main", 2), ("main", 4), ("main", 5)]
        while left:
            self.assertEqual(recovery_step(self.store), "orphans")
            left.pop(0)
            found = [(name, inode) for name in ("b", "main") for inode in find_orphans(self.store, name)]
            self.assertEqual(found, left)
            self.assert_opened_again()
        self.assertEqual(recovery_step(self.store), "done")
        for name in ("main", "b"):
            self.assertEqual(self.shown(name), without_orphans(before[name]))
        self.assertEqual(self.shown("s"), before["s"])
        self.assertEqual(find_orphans(self.store, "s"), [2, 4])

    def test_the_blocks_of_removing_an_orphan(self):
        self.start()
        self.open()
        saved = self.store.saved()
        remove_orphan(self.store, None, "b", 3)
        steps = commit_steps(self.store)
        self.store.restore(saved)
        before = self.store.disk.image()
        recovery_step(self.store)
        for step in steps:
            if step[0] == "write":
                before[step[1]] = step[2]
        self.assertEqual(self.store.disk.image(), before)

    def test_waiting_roots(self):
        VolumeCase.start(self)
        self.add_file("main", "a", [2] * 70)
        take_snapshot(self.store, "main", "s")
        clone_snapshot(self.store, None, "s", "c")
        self.write("c", 2, 0, [9] * 40)
        self.write("main", 2, 0, [8] * 40)
        for name in ("c", "s"):
            drop_volume(self.store, None, name)
        commit(self.store)
        self.open()
        self.assertEqual([serial for serial, _ in waiting_roots(self.store)], [1, 2])
        before = self.shown("main")
        saved = self.store.saved()
        self.store.use_reserve(0)
        release_step(self.store)
        steps = commit_steps(self.store)
        self.store.restore(saved)
        image = self.store.disk.image()
        for step in steps:
            if step[0] == "write":
                image[step[1]] = step[2]
        self.store.use_reserve(300)
        self.assertEqual(recovery_step(self.store), "pending")
        self.assertEqual((self.store.disk.image(), self.store.reserve), (image, 300))
        self.assertEqual([serial for serial, _ in waiting_roots(self.store)], [2])
        self.assertEqual(self.steps(), ["pending", "done"])
        self.assertEqual((waiting_roots(self.store), self.shown("main")), ([], before))

    def test_the_reserve_of_a_release(self):
        VolumeCase.start(self)
        make_volume(self.store, None, "b")
        drop_volume(self.store, None, "b")
        commit(self.store)
        self.open()
        saved = self.store.saved()
        fill(self.store, 0)
        with self.assertRaises(BadImage):
            recovery_step(self.store)
        self.store.restore(saved)
        # The leaf of the table is copied, and nothing else.
        fill(self.store, 1)
        self.assertEqual(recovery_step(self.store), "pending")

    def test_waiting_roots_of_rolling_back(self):
        VolumeCase.start(self)
        self.add_file("main", "a", [2] * 70)
        take_snapshot(self.store, "main", "s")
        for cells in ([7], [8] * 40):
            self.write("main", 2, 0, cells)
            roll_back(self.store, None, "main", "s")
        commit(self.store)
        self.open()
        self.assertEqual(self.steps(), ["pending"] * 2 + ["done"])
        self.assertEqual(self.shown("main"), self.shown("s"))

    def test_orphans_without_enough_room(self):
        VolumeCase.start(self, 96)
        make_volume(self.store, None, "b")
        self.add_file("main", None, [1] * 70)
        self.add_file("b", None)
        inode = self.add_file("main", "a")
        for unit in range(60):
            self.write("main", inode, 32 * unit, [7])
            commit(self.store)
            if self.store.free() <= 23:
                break
        self.assertIn(self.store.free(), (21, 22, 23))
        take_snapshot(self.store, "b", "s")
        drop_volume(self.store, None, "s")
        commit(self.store)
        self.open()
        for left, words in ((20, ["pending", "done"]), (None, ["orphans", "pending", "done"])):
            disk = self.store.disk
            store = open_disk(disk_from(disk.image()))
            # Blocks that are taken, and that nothing leads to, are free again after the next opening.
            if left is not None:
                fill(store, left)
            found = [recovery_step(store) for _ in words]
            self.assertEqual(found, words)
            self.assertEqual(find_orphans(store, "main"), [2])
            self.assertEqual(find_orphans(store, "b"), [2] if left is not None else [])
            self.assertEqual(store.reserve, 60)

    def test_an_orphan_for_which_a_release_makes_room(self):
        VolumeCase.start(self, 96)
        self.add_file("main", None, [1] * 70)
        make_volume(self.store, None, "b")
        inode = self.add_file("b", "a")
        for unit in range(60):
            self.write("b", inode, 32 * unit, [7])
            commit(self.store)
            if self.store.free() <= 22:
                break
        drop_volume(self.store, None, "b")
        commit(self.store)
        self.open()
        self.assertLess(self.store.free(), 24)
        self.assertEqual(self.steps(), ["pending", "orphans", "done"])
        self.assertEqual(self.shown("main"), [ROOT_RECORD])
        self.assertEqual(self.store.free(), 89)

    def test_power_off(self):
        self.start()
        self.log((3, MAIN, 1, A))
        for count in (0, 1, 5):
            disk = pickle.loads(pickle.dumps(self.store.disk))
            store = open_disk(disk)
            disk.fail_after(count)
            for reserve in (60, 0):
                store.use_reserve(reserve)
                with self.assertRaises(PowerOff):
                    recovery_step(store)
                self.assertEqual(store.reserve, reserve)
            with self.assertRaises(PowerOff):
                mount(disk)


class MountTest(RecoveryCase):

    def start_with_all(self, blocks=96):
        """Begin with records in the log, orphans, and two roots that wait."""
        self.start(blocks)
        clone_snapshot(self.store, None, "s", "c")
        self.write("c", 3, 0, [9] * 5)
        drop_volume(self.store, None, "c")
        roll_back(self.store, None, "main", "s")
        self.add_file("main", None, [5] * 33)
        commit(self.store)
        self.log((3, MAIN, 1, A), (6, B, 2, 30, 1, 2, 3), (1, MAIN, 1, B, 1, 0))

    def test_all_steps(self):
        self.start_with_all()
        store = mount(pickle.loads(pickle.dumps(self.store.disk)))
        self.assertEqual(store.reserve, 60)
        self.open()
        self.assertEqual(self.steps(), ["intents"] + ["orphans"] * 3 + ["pending"] * 2 + ["done"])
        self.store.use_reserve(60)
        self.assertEqual(state_of(store), state_of(self.store))

    def test_a_second_mount_writes_nothing(self):
        self.start_with_all()
        disk = self.store.disk
        first = mount(disk)
        image = disk.image()
        disk.fail_after(0)
        second = mount(disk)
        self.assertEqual((disk.image(), disk.waiting()), (image, []))
        self.assertEqual(state_of(second), state_of(first))

    def mounted_after(self, disk, count, choices):
        """Mount a copy of a disk whose power fails after so many operations; then cut it. Returns the disk, or None."""
        copy = pickle.loads(pickle.dumps(disk))
        copy.fail_after(count)
        try:
            mount(copy)
            return None
        except PowerOff:
            copy.cut(choices(len(copy.waiting())))
            return copy

    def test_power_failures(self):
        self.start_with_all()
        disk = self.store.disk
        chance = random.Random(3)
        expected = self.seen(mount(pickle.loads(pickle.dumps(disk))))
        patterns = [
            lambda many: [], lambda many: [8] * many, lambda many: [chance.randint(1, 7) for _ in range(many)],
            lambda many: [chance.choice([0, 8, 1, 7]) for _ in range(many)]]
        count = 0
        while self.mounted_after(disk, count, patterns[0]) is not None:
            for pattern in patterns:
                copy = self.mounted_after(disk, count, pattern)
                # The power may fail once more while the disk is mounted again.
                again = self.mounted_after(copy, chance.randrange(12), chance.choice(patterns))
                for found in (copy, again):
                    if found is not None:
                        self.assertEqual(self.seen(mount(found)), expected)
            count += 1
        self.assertGreater(count, 60)

    def test_images_that_are_not_valid(self):
        self.start_with_all()
        chance = random.Random(5)
        image = self.store.disk.lasting()
        used = [number for number, use in enumerate(uses_of(open_disk(self.store.disk))) if use and number > 4]
        counts = [0, 0]
        for _ in range(600):
            number = chance.choice(used)
            words = words_of(image, number)
            for _ in range(chance.choice([1, 1, 2])):
                at = chance.choice([at for at in range(32) if words[at] or chance.random() < 0.1])
                words[at] = chance.choice(
                    [0, 1, 2, 3, 4, 5, words[at] + 1, words[at] + 40, chance.choice(used), 10 ** 30])
            try:
                mount(disk_from(with_words(image, number, words)))
                counts[0] += 1
            except LaminaError:
                counts[1] += 1
        self.assertTrue(all(count > 50 for count in counts), counts)

    def test_trees_that_are_none(self):
        main = ((0, 4, MAIN), (6, 1, 1, 0))
        records = [ROOT_RECORD] + [((inode, 1, 0), (1, 0, 0, 0)) for inode in range(2, 9)]
        for blocks in (
                {6: inner(6, 1, [])},
                {6: inner(6, 1, [((1, 1, 0), (6, 1)), ((2, 1, 0), (6, 1))])},
                {6: inner(6, 1, [((1, 1, 0), (7, 1))]), 7: leaf(7, 1, records[:4])},
                {6: inner(6, 1, [((1, 1, 0), (7, 1)), ((5, 1, 0), (8, 1))]), 7: leaf(7, 1, records[:4]),
                 8: leaf(8, 1, records[4:5])},
                {6: inner(6, 1, [((1, 1, 0), (7, 1)), ((5, 1, 0), (8, 1))]), 7: leaf(7, 1, records[:4]),
                 8: leaf(8, 1, records[5:8])},
                {6: inner(6, 1, [((1, 1, 0), (7, 1)), ((3, 1, 0), (8, 1))]), 7: leaf(7, 1, records[:4]),
                 8: leaf(8, 1, records[2:5])},
                {6: inner(6, 1, [((1, 1, 0), (7, 1)), ((5, 1, 0), (8, 1))]), 7: leaf(7, 1, records[:4]),
                 8: inner(8, 1, [((5, 1, 0), (9, 1)), ((7, 1, 0), (10, 1))]), 9: leaf(9, 1, records[4:6]),
                 10: leaf(10, 1, records[6:])},
                {6: inner(6, 1, [((1, 1, 0), (7, 1)), ((2, 1, 0), (7, 1))]), 7: leaf(7, 1, records[:4])}):
            disk = disk_of({5: leaf(5, 1, [main]), **blocks}, (5, 1))
            open_disk(disk)
            with self.assertRaises(BadImage):
                mount(disk)
        for table in ([], [((0, 4, MAIN), (6, 1))], [((0, 4, A), (6, 1)), ((0, 4, MAIN), (6, 1))]):
            disk = disk_of({5: inner(5, 1, table), 6: leaf(6, 1, [main])}, (5, 1))
            open_disk(disk)
            with self.assertRaises(BadImage):
                mount(disk)
        blocks = {6: inner(6, 1, [((1, 1, 0), (7, 1)), ((5, 1, 0), (8, 1))]), 7: leaf(7, 1, records[:4]),
                  8: leaf(8, 1, records[4:])}
        store = mount(disk_of({5: leaf(5, 1, [main]), **blocks}, (5, 1)))
        self.assertEqual(shown(store, root_of(store, "main")), [ROOT_RECORD])

    def test_nodes_that_lead_to_themselves(self):
        # Each of them leads to itself and to the next one: the ways from the root are more than can be gone.
        nodes = {at: inner(at, 1, [((at, 1, 0), (at, 1)), ((at + 1, 1, 0), (at + 1, 1))]) for at in range(6, 90)}
        for key in ((0, 4, MAIN), (0, 6, 1)):
            disk = disk_of({5: leaf(5, 1, [(key, (6, 1, 1, 0))]), **nodes, 90: inner(90, 1, [])}, (5, 1))
            open_disk(disk)
            with self.assertRaises(BadImage):
                mount(disk)

    def test_directories_that_lead_back(self):
        # The directories 2 and 3 are each below the other one; moving into them ends all the same.
        items = [
            ((1, 1, 0), (2, 1, 1, 0)), ((1, 2, A), (4, 2, 0, 0)), ((2, 1, 0), (2, 3, 1, 0)), ((2, 2, A), (3, 2, 0, 0)),
            ((3, 1, 0), (2, 2, 1, 0)), ((3, 2, A), (2, 2, 0, 0)), ((4, 1, 0), (2, 1, 1, 0)), ((4, 2, A), (2, 2, 0, 0))]
        blocks = {
            5: leaf(5, 1, [((0, 4, MAIN), (6, 1, 1, 0))]),
            6: inner(6, 1, [(items[0][0], (7, 1)), (items[4][0], (8, 1))]), 7: leaf(7, 1, items[:4]),
            8: leaf(8, 1, items[4:])}
        for intent in ((1, MAIN, 2, B, 2, 0), (5, MAIN, 1, A, 1, B)):
            disk = disk_of(blocks, (5, 1))
            for sector, words in Log(1).append_records([intent]):
                disk.write(sector, words)
            disk.flush()
            with self.assertRaises(BadImage):
                mount(disk)


class CountTest(RecoveryCase):

    def test_uses_by_chance(self):
        chance = random.Random(2)
        for _ in range(5):
            self.start()
            for step in range(40):
                name = chance.choice(["main", "b"])
                change = chance.randrange(5)
                names = [row[0] for row in list_volumes(self.store)]
                if change == 0 and len(names) < 8:
                    take_snapshot(self.store, name, f"x{step}")
                elif change == 1 and len(names) > 3:
                    drop_volume(self.store, None, names[-1])
                elif change == 2:
                    root = prepare_root(self.store, name)
                    set_root(self.store, name, share_range(self.store, root, 2, 0, 2, chance.randrange(4), 1))
                else:
                    self.write(name, 2, chance.randrange(100), [chance.randrange(3)] * chance.randrange(40))
                if chance.random() < 0.5:
                    commit(self.store)
                    head = present_head(self.store.disk)
                    expected = counted_uses(self.store, [(self.store.table, True)])
                    self.assertEqual(count_uses(self.store.disk, head), expected)
                    self.assertEqual(Space(expected).free(), self.store.free())
                    self.assertIsInstance(open_disk(self.store.disk), Store)


if __name__ == "__main__":
    unittest.main()
