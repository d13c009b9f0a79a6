"""The system: points [132] to [135] and [137], [103] and [143] for mounting and unmounting."""

import random
import unittest

from cases import MAIN, SystemCase, copy_of, outcome, outside
from images import disk_of, inner, leaf, with_sector
from laminae.checks import check
from laminae.disk import disk_from
from laminae.errors import BadImage, Busy, Missing, NoProcess, NotValid, PowerOff
from laminae.handles import find_orphans
from laminae.heads import log_mark
from laminae.mounts import make_disk, mount
from laminae.session import Session
from laminae.system import System, call_names, state_of
from laminae.volumes import drop_volume, make_volume
from model import Model
from traffic import Traffic

NAMES = [
    "open_file", "close_file", "read_cells", "write_cells", "move_to", "resize", "share_units", "describe",
    "describe_open", "list_directory", "make_directory", "remove_directory", "link_file", "unlink_file", "rename_path",
    "give_path", "duplicate_file", "fork_process", "end_process", "enter_directory", "current_path", "become",
    "create_volume", "create_snapshot", "create_clone", "restore_volume", "delete_volume", "show_volumes", "put_owner",
    "delete_owner", "show_owners", "owner_usage", "sync_file", "sync_all", "room"]
NEW_STATE = ([("main", True, "", [(1, 2, 1, 0, 0, [])])], [])


class NewSystemTest(SystemCase):

    def test_fields(self):
        for blocks in (96, 97, 256):
            system = System(blocks)
            self.assertEqual(system.disk.blocks, blocks)
            self.assertEqual((system.image(), system.disk.waiting()), (make_disk(blocks).image(), []))
            self.assertIsInstance(system.session, Session)
            self.assertIs(system.session.store.disk, system.disk)
            self.assertEqual(system.session.processes.list_processes(), [(0, 0, "main", 1, [])])
            self.assertEqual(system.state(), NEW_STATE)

    def test_sizes_that_are_not_valid(self):
        for blocks in outside(96, 256) + [True, None, "96"]:
            with self.assertRaises(NotValid):
                System(blocks)

    def test_names_of_calls(self):
        self.assertEqual(call_names(), NAMES)
        names = call_names()
        names.pop()
        self.assertEqual(call_names(), NAMES)


class AskTest(SystemCase):

    def test_names_that_are_no_calls(self):
        self.start()
        for name in ("", "mount", "open", "note", "OPEN_FILE", "open_at", "change", "check", "__init__", "read_cells "):
            for process in (0, 9):
                self.refuse_as_it_is(NotValid, name, process=process)
                self.refuse_as_it_is(NotValid, name, 1, 2, 3, process=process)
        self.system.unmount()
        for name in ("", "mount", "describe_all"):
            with self.assertRaises(NotValid):
                self.system.ask(name, 0)

    def test_nothing_mounted(self):
        self.start()
        self.system.unmount()
        for name in NAMES:
            for process in (0, -5):
                with self.assertRaises(PowerOff):
                    self.system.ask(name, process)
        with self.assertRaises(PowerOff):
            self.system.ask("read_cells", 0, 9, 9999)
        with self.assertRaises(PowerOff):
            self.system.state()

    def test_values_and_exceptions(self):
        self.start()
        self.assertEqual(self.system.ask("make_directory", 0, "d"), 2)
        with self.assertRaises(Missing):
            self.system.ask("describe", 0, "x")
        with self.assertRaises(NoProcess):
            self.system.ask("describe", 1, "d")
        self.assertIsNotNone(self.system.session)
        self.assertEqual(self.system.ask("room", 0)[2], 256)


class MountTest(SystemCase):

    def test_unmounting(self):
        self.start()
        self.ask("make_directory", "d")
        self.make_file("x", [1])
        state, generation = self.system.state(), self.store.head.generation
        self.assertIs(self.system.unmount(), None)
        self.assertIs(self.system.session, None)
        self.assertEqual(check(self.system.image()), (state, True))
        self.assertEqual(self.system.disk.waiting(), [])
        with self.assertRaises(PowerOff):
            self.system.unmount()
        self.assertIs(self.system.mount(), None)
        self.assertEqual((self.system.state(), self.store.head.generation), (state, generation + 1))

    def test_nothing_to_commit(self):
        self.start()
        self.ask("create_volume", "v")
        self.ask("put_owner", 3, 0, 1, 1)
        for _ in range(2):
            image = self.system.image()
            self.system.fail_after(0)
            self.system.unmount()
            self.system.mount()
            self.assertEqual((self.system.image(), self.system.disk.waiting()), (image, []))
            self.system.fail_after(None)

    def test_after_logging(self):
        self.start()
        self.ask("open_file", "x", "wm")
        self.ask("sync_file", 0)
        self.ask("close_file", 0)
        self.assertEqual(log_mark(self.system.disk), self.store.head.generation)
        self.assertIs(check(self.system.image())[1], False)
        state = self.system.state()
        self.system.unmount()
        self.assertEqual(check(self.system.image()), (state, True))

    def test_busy(self):
        self.start()
        for _ in range(2):
            before = self.seen()
            with self.assertRaises(Busy):
                self.system.mount()
            self.assertEqual(self.seen(), before)
            self.ask("open_file", "x", "wm")
        self.refuse_to_unmount()
        self.ask("close_file", 0)
        self.refuse_to_unmount()
        self.ask("close_file", 1)
        self.ask("fork_process")
        self.refuse_to_unmount()
        self.ask("end_process")
        self.refuse_to_unmount()
        self.ask("fork_process", process=1)
        self.refuse_to_unmount()
        self.ask("end_process", process=1)
        self.ask("enter_directory", "@main")
        self.system.unmount()
        self.system.mount()
        self.ask("end_process")
        self.system.unmount()
        self.system.mount()
        self.assertEqual(self.session.processes.list_processes(), [(0, 0, "main", 1, [])])

    def refuse_to_unmount(self):
        before = self.seen()
        with self.assertRaises(Busy):
            self.system.unmount()
        self.assertEqual(self.seen(), before)

    def test_what_a_mount_does_not_keep(self):
        self.start()
        self.ask("put_owner", 5, 0, None, None)
        self.ask("make_directory", "d")
        self.ask("become", 5)
        self.ask("enter_directory", "d")
        self.ask("open_file", "x", "wm")
        self.ask("sync_all")
        for cut in (True, False):
            if cut:
                self.system.cut([])
            else:
                self.system.unmount()
            self.system.mount()
            self.assertEqual(self.session.processes.list_processes(), [(0, 0, "main", 1, [])])
            self.assertEqual((self.session.handles.open_files(), self.session.changes), ([], []))
            self.assertEqual(self.ask("owner_usage", 5), (1, 1))

    def test_the_first_writable_volume(self):
        self.start()
        self.ask("create_snapshot", "main", "a")
        self.ask("create_volume", "c")
        self.ask("create_volume", "b")
        self.system.unmount()
        self.system.mount()
        self.assertEqual(self.ask("current_path"), "@b")

    def test_files_without_a_name(self):
        self.start()
        for volume in ("main", "v"):
            if volume == "v":
                self.ask("create_volume", "v")
            self.ask("open_file", f"@{volume}/x", "wm")
            self.ask("unlink_file", f"@{volume}/x")
        self.ask("create_snapshot", "v", "s")
        state = self.system.state()
        self.assertEqual([len(row[3]) for row in state[0]], [1, 1, 1])
        self.assertEqual(check(self.system.image()), (state, True))
        self.system.cut([])
        self.system.mount()
        self.assertEqual(self.system.state(), state)
        self.assertEqual([find_orphans(self.store, name) for name in ("main", "s", "v")], [[], [2], []])
        self.assertEqual(check(self.system.image()), (state, True))

    def test_waiting_roots_and_records(self):
        self.start()
        self.ask("make_directory", "d")
        self.ask("create_volume", "v")
        self.ask("make_directory", "@v/d")
        self.session.commit_changes()
        drop_volume(self.store, self.session.accounts, "v")
        self.session.commit_changes()
        self.ask("open_file", "x", "wm")
        self.ask("sync_file", 0)
        state = self.system.state()
        self.assertIs(check(self.system.image())[1], False)
        self.system.cut([])
        self.system.mount()
        self.assertEqual(self.system.state(), state)
        self.assertEqual(check(self.system.image()), (state, True))

    def test_images_that_are_not_valid(self):
        self.start()
        self.ask("make_directory", "d")
        self.system.unmount()
        good = self.system.image()
        items = [((0, 4, MAIN), (6, 1, 1, 0))]
        root = {6: leaf(6, 1, [((1, 1, 0), (2, 1, 0, 0))])}
        log = [[0] * 7 + [2] for _ in range(16)]
        log[0] = [1, 0, 1, 3, 10, MAIN, 9, 2]
        for disk in (
                disk_from(with_sector(with_sector(good, 0, [0] * 8), 1, [0] * 8)),
                disk_from(good[:4] + log + good[20:]),
                disk_of({5: leaf(5, 1, []), **root}, (5, 1)), disk_of({5: inner(5, 1, []), **root}, (5, 1)),
                disk_of({5: leaf(5, 1, [((0, 4, MAIN + 1), (6, 1, 1, 0))]), **root}, (5, 1)),
                disk_of({5: leaf(5, 1, [((0, 4, MAIN), (6, 1, 0, 0))]), **root}, (5, 1)),
                disk_of({5: leaf(5, 1, items)}, (5, 1))):
            self.system.disk = disk
            before = disk.image()
            with self.assertRaises(BadImage):
                self.system.mount()
            self.assertIs(self.system.session, None)
            self.assertEqual((disk.image(), disk.waiting()), (before, []))
        self.system.disk = disk_of({5: leaf(5, 1, items), **root}, (5, 1))
        self.system.mount()
        self.assertEqual(self.system.state(), NEW_STATE)


class PowerTest(SystemCase):

    def test_values_that_are_not_valid(self):
        self.start()
        self.ask("make_directory", "d")
        for count in outside(0, 100000) + [True, "1", [1]]:
            before = self.seen()
            with self.assertRaises(NotValid):
                self.system.fail_after(count)
            self.assertEqual(self.seen(), before)
        for choices in ([9], [-1], [0, 9], [True], [None], (0,), None, 8, "8", [[0]]):
            before, session = self.seen(), self.system.session
            with self.assertRaises(NotValid):
                self.system.cut(choices)
            self.assertEqual(self.seen(), before)
            self.assertIs(self.system.session, session)
        self.ask("sync_all")
        for count in (0, 100000, None):
            self.assertIs(self.system.fail_after(count), None)

    def test_a_failure_in_a_call(self):
        self.start()
        self.ask("make_directory", "d")
        state = self.system.state()
        self.system.fail_after(3)
        self.ask("make_directory", "e")
        self.assertEqual(len(self.system.state()[0][0][3]), 3)
        with self.assertRaises(PowerOff):
            self.ask("sync_all")
        self.assertIs(self.system.session, None)
        self.assertEqual(len(self.system.disk.waiting()), 3)
        image = self.system.image()
        for _ in range(2):
            for name in NAMES:
                with self.assertRaises(PowerOff):
                    self.ask(name)
            with self.assertRaises(NotValid):
                self.ask("nothing")
            for call in (self.system.mount, self.system.unmount, self.system.state):
                with self.assertRaises(PowerOff):
                    call()
            self.system.fail_after(None)
            self.system.fail_after(50)
        self.assertEqual(self.system.image(), image)
        self.assertIs(self.system.cut([8]), None)
        self.assertEqual(self.system.disk.waiting(), [])
        self.assertIs(self.system.session, None)
        with self.assertRaises(PowerOff):
            self.ask("room")
        self.system.mount()
        self.assertEqual(self.system.state(), NEW_STATE)
        self.assertNotEqual(state, NEW_STATE)

    def test_a_failure_in_unmounting_and_mounting(self):
        self.start()
        self.ask("make_directory", "d")
        state = self.system.state()
        self.system.fail_after(0)
        with self.assertRaises(PowerOff):
            self.system.unmount()
        self.assertIs(self.system.session, None)
        self.system.cut([])
        self.system.mount()
        self.assertEqual(self.system.state(), NEW_STATE)
        self.ask("open_file", "x", "wm")
        self.ask("sync_file", 0)
        state = self.system.state()
        self.system.cut([])
        for count in range(4):
            self.system.fail_after(count)
            for _ in range(2):
                with self.assertRaises(PowerOff):
                    self.system.mount()
                self.assertIs(self.system.session, None)
            self.system.cut([])
        self.system.mount()
        self.assertEqual(self.system.state(), state)

    def test_a_cut_without_a_failure(self):
        self.start()
        self.ask("make_directory", "d")
        self.ask("sync_all")
        state = self.system.state()
        self.ask("make_directory", "e")
        self.system.fail_after(1)
        self.system.cut([])
        self.assertIs(self.system.session, None)
        self.system.mount()
        self.assertEqual(self.system.state(), state)
        # The cut removed the failure that was set.
        self.ask("make_directory", "e")
        self.ask("sync_all")
        self.system.cut([8, 8, 8])
        self.system.cut([])
        self.system.mount()
        self.assertEqual(len(self.system.state()[0][0][3]), 3)

    def test_choices(self):
        for kept, expected in ((True, 2), (False, 1)):
            self.start(96)
            self.ask("make_directory", "d")
            # The power fails ahead of the last flush: the head waits.
            steps = 4 * len(self.store.new_blocks()) + 3
            self.system.fail_after(steps - 1)
            with self.assertRaises(PowerOff):
                self.ask("sync_all")
            self.assertEqual(self.system.disk.waiting(), [(0, [2, *self.system.image()[0][1:]])])
            self.system.cut([8] if kept else [7])
            self.system.mount()
            self.assertEqual(len(self.system.state()[0][0][3]), expected)

    def test_images(self):
        self.start(96)
        self.ask("make_directory", "d")
        before = self.system.image()
        self.system.fail_after(4)
        with self.assertRaises(PowerOff):
            self.ask("sync_all")
        image = self.system.image()
        self.assertEqual(self.system.disk.lasting(), before)
        for sector, words in self.system.disk.waiting():
            before[sector] = words
        self.assertEqual(image, before)
        image[0].append(1)
        image.pop()
        self.assertEqual(len(self.system.image()), 384)


class StateTest(SystemCase):

    def test_all_that_it_has(self):
        self.start()
        self.ask("put_owner", 7, 0, 50, None)
        self.ask("put_owner", 3, 7, None, 9)
        self.ask("make_directory", "d")
        self.ask("give_path", "d", 3)
        self.make_file("d/z", [0] * 40 + [5])
        self.ask("link_file", "d/z", "a")
        self.make_file("d/0", [])
        self.ask("open_file", "gone", "wm")
        self.ask("unlink_file", "gone")
        self.ask("create_snapshot", "main", "s")
        self.ask("create_clone", "s", "c")
        self.ask("create_snapshot", "c", "t")
        self.ask("unlink_file", "@c/a")
        self.ask("create_volume", "b")
        unit = [(1, [0] * 8 + [5] + [0] * 23)]
        rows = [
            (1, 2, 1, 2, 0, [("a", 3), ("d", 2)]), (2, 2, 1, 2, 3, [("z", 3), ("0", 4)]), (3, 1, 2, 41, 0, unit),
            (4, 1, 1, 0, 0, [])]
        changed = [
            (1, 2, 1, 1, 0, [("d", 2)]), (2, 2, 1, 2, 3, [("z", 3), ("0", 4)]), (3, 1, 1, 41, 0, unit),
            (4, 1, 1, 0, 0, [])]
        expected = ([
            ("b", True, "", [(1, 2, 1, 0, 0, [])]), ("c", True, "s", changed), ("main", True, "", rows),
            ("s", False, "main", rows), ("t", False, "c", rows)], [(3, 7, None, 9), (7, 0, 50, None)])
        self.assertEqual(self.system.state(), expected)
        self.assertEqual(state_of(self.store), expected)
        self.assertEqual(state_of(mount(disk_from(self.system.disk.lasting()))), check(self.system.image())[0])
        found = self.system.state()
        self.assertIsInstance(found, tuple)
        self.assertTrue(all(isinstance(row, tuple) for row in found[0] + found[1] + found[0][0][3]))

    def test_processes_are_not_part_of_it(self):
        self.start()
        self.make_file("x", [1])
        state = self.system.state()
        self.ask("open_file", "x", "r")
        self.ask("fork_process")
        self.ask("read_cells", 0, 1)
        self.assertEqual(self.system.state(), state)

    def test_stores_that_were_never_mounted(self):
        store = mount(make_disk(96))
        make_volume(store, None, "b")
        self.assertEqual(state_of(store), ([("b", True, "", [(1, 2, 1, 0, 0, [])]), NEW_STATE[0][0]], []))


class SameTest(unittest.TestCase):

    def test_the_same_calls_give_the_same_answers_and_sectors(self):
        for seed in range(3):
            chance = random.Random(seed)
            systems, model = [System(96), System(96)], Model()
            traffic = Traffic(chance, model, call_names())
            for _ in range(150):
                if chance.random() < 0.03 or not model.processes:
                    count, choices = chance.randrange(30), [chance.randint(0, 8) for _ in range(40)]
                    found = [self.cut_power(system, count, choices) for system in systems]
                    model.mounted()
                else:
                    name, process, given = traffic.call()
                    found = [outcome(system.ask, name, process, *copy_of(given)) for system in systems]
                    outcome(getattr(model, name), process, *given)
                self.assertEqual(found[0], found[1])
                self.assertEqual(systems[0].image(), systems[1].image())
                self.assertEqual(systems[0].state(), systems[1].state())

    def cut_power(self, system, count, choices):
        """Let the power fail in a commit or without one, cut and mount; return all that was seen."""
        system.fail_after(count)
        found = [outcome(system.ask, "sync_all", 0), outcome(system.unmount), system.disk.waiting(), system.image()]
        system.cut(choices)
        return found + [outcome(system.mount)]


if __name__ == "__main__":
    unittest.main()
