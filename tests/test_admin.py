"""Calls for processes, volumes and owners, and those that make changes last: points [126] to [131]."""

import unittest

from cases import GREAT, MAIN, SystemCase, copy_of, outside
from helpers import fill
from laminae.checks import check
from laminae.errors import (
    BadHandle, BadName, Busy, Exists, LoopFound, Missing, NoProcess, NoSpace, NotEmpty, NotValid, NoVolume, OverQuota,
    PowerOff, ReadOnly, TooMany, WrongKind)
from laminae.handles import find_orphans
from laminae.heads import log_mark
from laminae.intents import record_sectors
from laminae.system import call_names
from laminae.volumes import waiting_roots

NO_PROCESSES = (-1, 1, 4, GREAT)
BAD_NAMES = ("", ".", "..", "A", "a" * 12, "a/b", "@a", "a b")


class AdminCase(SystemCase):

    def start(self, blocks=256):
        """Begin with /d/e, /a (inode 4), a snapshot s of main, and the volume v with a file; v has the snapshot t."""
        SystemCase.start(self, blocks)
        self.ask("make_directory", "d")
        self.ask("make_directory", "d/e")
        self.make_file("a", [1] * 40)
        self.ask("create_snapshot", "main", "s")
        self.ask("create_volume", "v")
        self.make_file("@v/a", [2] * 70)
        self.ask("create_snapshot", "v", "t")

    def open(self, path="a", mode="rw", process=0):
        return self.ask("open_file", path, mode, process=process)


class OrderTest(AdminCase):

    CALLS = {
        "duplicate_file": (0,), "fork_process": (), "end_process": (), "enter_directory": ("//",), "current_path": (),
        "become": (9,), "create_volume": ("",), "create_snapshot": ("", ""), "create_clone": ("", ""),
        "restore_volume": ("", ""), "delete_volume": ("",), "show_volumes": (), "put_owner": (1, 9, None, None),
        "delete_owner": (9,), "show_owners": (), "owner_usage": (0,), "sync_file": (0,), "sync_all": (), "room": ()}

    def test_processes_that_do_not_exist(self):
        self.start()
        self.open()
        self.assertEqual(set(self.CALLS), set(call_names()[16:]))
        for name, given in self.CALLS.items():
            for process in NO_PROCESSES:
                self.refuse(NoProcess, name, *given, process=process)

    def test_numbers_outside_of_their_bounds(self):
        self.start()
        for process in (0, 9):
            for name in ("duplicate_file", "sync_file"):
                for descriptor in outside(0, 7) + [True, None]:
                    self.refuse(NotValid, name, descriptor, process=process)
            for name in ("become", "owner_usage"):
                for owner in outside(0, 255) + [True, None]:
                    self.refuse(NotValid, name, owner, process=process)
            for owner in outside(1, 255) + [True, None]:
                self.refuse(NotValid, "delete_owner", owner, process=process)
                self.refuse(NotValid, "put_owner", owner, 9, None, None, process=process)
            for parent in outside(0, 255) + [True, None]:
                self.refuse(NotValid, "put_owner", 1, parent, None, None, process=process)
            for limit in outside(0, 100000) + [True, "0"]:
                self.refuse(NotValid, "put_owner", 1, 9, limit, None, process=process)
                self.refuse(NotValid, "put_owner", 1, 9, None, limit, process=process)

    def test_the_bounds_themselves(self):
        self.start()
        for owner in (1, 255):
            for limits in ((0, 0), (100000, 100000), (None, 0), (0, None)):
                self.ask("put_owner", owner, 0, *limits)
        self.assertEqual(self.ask("owner_usage", 255), (0, 0))
        self.ask("put_owner", 2, 255, None, None)
        self.refuse(Missing, "delete_owner", 254)
        self.refuse(BadHandle, "duplicate_file", 7)
        self.refuse(BadHandle, "sync_file", 7)
        self.refuse(Missing, "become", 254)


class ProcessTest(AdminCase):

    def test_descriptors(self):
        self.start()
        self.assertEqual([self.open(), self.assert_unchanged("duplicate_file", 0)], [0, 1])
        self.ask("move_to", 0, 5)
        self.assertEqual(self.ask("read_cells", 1, 2), [1, 1])
        self.assertEqual(self.session.handles.open_files(), [(0, "main", 4, "rw", 7, 2)])
        for descriptor in (2, 7):
            self.refuse(BadHandle, "duplicate_file", descriptor)
        for expected in range(2, 8):
            self.assertEqual(self.ask("duplicate_file", 1), expected)
        self.refuse(TooMany, "duplicate_file", 0)
        self.ask("close_file", 3)
        self.refuse(BadHandle, "duplicate_file", 3)
        self.assertEqual(self.ask("duplicate_file", 7), 3)

    def test_processes(self):
        self.start()
        self.open()
        self.ask("put_owner", 5, 0, None, None)
        self.ask("become", 5)
        self.ask("enter_directory", "d")
        self.assertEqual(self.assert_unchanged("fork_process"), 1)
        self.assertEqual(self.session.processes.list_processes(), [
            (0, 5, "main", 2, [(0, 0)]), (1, 5, "main", 2, [(0, 0)])])
        self.assertEqual([self.ask("fork_process", process=1), self.ask("fork_process")], [2, 3])
        for process in range(4):
            self.refuse(TooMany, "fork_process", process=process)
        self.assertIs(self.assert_unchanged("end_process", process=1), None)
        self.assertEqual(self.store.reserve, 20)
        self.refuse(NoProcess, "end_process", process=1)
        self.assertEqual(self.ask("fork_process", process=3), 1)

    def test_ending_processes_with_files_without_a_name(self):
        self.start()
        usage = self.ask("owner_usage", 0)
        for name in ("x", "y", "z"):
            self.make_file(name, [1] * 40)
            self.open(name)
        self.ask("fork_process")
        self.assertEqual(self.session.processes.list_processes()[1][4], [(0, 0), (1, 1), (2, 2)])
        inodes = [self.ask("describe", name)[1] for name in ("x", "y", "z")]
        for name in ("z", "x"):
            self.ask("unlink_file", name)
        self.assert_noted([], "end_process")
        self.assertEqual(self.ask("fork_process", process=1), 0)
        self.ask("close_file", 0)
        self.assert_noted([(10, MAIN, inodes[0])], "end_process", process=1)
        self.assert_noted([(10, MAIN, inodes[2])], "end_process", process=0)
        self.assertEqual(self.session.processes.list_processes(), [])
        self.assertEqual(find_orphans(self.store, "main"), [])
        for name, given in (("room", ()), ("describe", ("",)), ("end_process", ()), ("fork_process", ())):
            for process in range(4):
                self.refuse(NoProcess, name, *given, process=process)
        self.system.unmount()
        self.system.mount()
        self.assertEqual(self.ask("owner_usage", 0), (usage[0] + 3, usage[1] + 1))

    def test_the_order_of_the_descriptors(self):
        self.start()
        for name in ("x", "y", "z"):
            self.make_file(name)
        for name in ("z", "x", "y"):
            self.open(name)
            self.ask("unlink_file", name)
        inodes = [self.ask("describe_open", descriptor)[1] for descriptor in range(3)]
        self.assert_noted([(10, MAIN, inode) for inode in inodes], "end_process")

    def test_without_enough_room(self):
        self.start()
        self.make_file("x", [1] * 70)
        self.open("x")
        self.ask("unlink_file", "x")
        self.commit()
        usage = self.ask("owner_usage", 0)
        saved = self.store.saved()
        fill(self.store, 20)
        self.assertIs(self.assert_unchanged("end_process"), None)
        self.assertEqual(self.session.accounts.usage(0), usage)
        self.assertEqual((self.session.changes, len(find_orphans(self.store, "main"))), ([], 1))
        self.store.restore(saved)
        self.system.unmount()
        self.system.mount()
        self.assertEqual(find_orphans(self.store, "main"), [])

    def test_working_directories(self):
        self.start()
        for path, expected in (
                ("", "@main"), ("d", "@main/d"), ("e", "@main/d/e"), ("", "@main/d/e"), ("/d", "@main/d"),
                ("@s/d/e", "@s/d/e"), ("/", "@s"), ("@v", "@v"), ("@main/d", "@main/d"), ("/", "@main")):
            self.assertIs(self.assert_unchanged("enter_directory", path), None)
            self.assertEqual(self.assert_unchanged("current_path"), expected)
        for path, error in (
                ("a", WrongKind), ("@s/a", WrongKind), ("x", Missing), ("a/x", WrongKind), ("//", BadName),
                ("@no", NoVolume), ("@no/d", NoVolume)):
            self.refuse(error, "enter_directory", path)
        self.ask("enter_directory", "d/e")
        self.ask("rename_path", "/d", "/a.b")
        self.assertEqual(self.ask("current_path"), "@main/a.b/e")

    def test_owners_of_processes(self):
        self.start()
        self.ask("put_owner", 255, 0, 0, 0)
        self.ask("fork_process")
        self.assertIs(self.assert_unchanged("become", 255, process=1), None)
        self.assertEqual([row[1] for row in self.session.processes.list_processes()], [0, 255])
        self.refuse(Missing, "become", 1)
        self.ask("become", 0, process=1)
        self.assertEqual([row[1] for row in self.session.processes.list_processes()], [0, 0])


class VolumeTest(AdminCase):

    def assert_committed(self, name, *given, steps=0):
        """Check that a call makes a commit, and one for each root that waited, and that nothing waits or is noted."""
        self.ask("link_file", "@main/a", "@main/z")
        generation = self.store.head.generation
        self.store.use_reserve(7)
        self.assertIs(self.ask(name, *given), None)
        self.assertEqual(self.store.head.generation, generation + 1 + steps)
        self.assertEqual((self.session.changes, self.session.logged, waiting_roots(self.store)), ([], 0, []))
        self.assertEqual((self.store.new_blocks(), self.store.space.pending()), ([], 0))
        self.assertEqual(self.store.reserve, 0 if name.startswith("delete") else 60)
        state, clean = check(self.system.image())
        self.assertEqual((state, clean), (self.system.state(), True))
        self.assert_all()
        # All of it lasts.
        system = copy_of(self.system)
        system.cut([])
        system.mount()
        self.assertEqual(system.state(), state)

    def test_each_call(self):
        for name, given, steps, rows in (
                ("create_volume", ("n",), 0, [("n", True, "")]),
                ("create_snapshot", ("main", "n"), 0, [("n", False, "main")]),
                ("create_snapshot", ("s", "n"), 0, [("n", False, "s")]),
                ("create_clone", ("s", "n"), 0, [("n", True, "s")]),
                ("restore_volume", ("v", "t"), 1, []), ("delete_volume", ("t",), 1, None),
                ("delete_volume", ("s",), 1, None), ("put_owner", (7, 0, 5, None), 0, []),
                ("put_owner", (9, 0, 1, 2), 0, []), ("delete_owner", (9,), 0, [])):
            self.start()
            self.ask("put_owner", 9, 0, 1, 2)
            before = self.assert_unchanged("show_volumes")
            self.assert_committed(name, *given, steps=steps)
            after = self.assert_unchanged("show_volumes")
            if rows is None:
                self.assertEqual(after, [row for row in before if row[0] != given[0]])
            else:
                self.assertEqual(sorted(after), sorted(before + rows))

    def test_names(self):
        self.start()
        for name in BAD_NAMES:
            self.refuse(BadName, "create_volume", name)
            for call, volumes in (("create_snapshot", ("main", "no")), ("create_clone", ("s", "main", "no"))):
                for volume in volumes:
                    self.refuse(BadName, call, volume, name)
            for call, given in (
                    ("create_snapshot", (name, "n")), ("create_clone", (name, "n")), ("restore_volume", (name, "t")),
                    ("restore_volume", ("v", name)), ("delete_volume", (name,))):
                self.refuse(NoVolume, call, *given)

    def test_the_order_of_the_exceptions(self):
        self.start()
        for name, given, error in (
                ("create_volume", ("main",), Exists), ("create_volume", ("s",), Exists),
                ("create_snapshot", ("no", "main"), NoVolume), ("create_snapshot", ("main", "s"), Exists),
                ("create_clone", ("no", "main"), NoVolume), ("create_clone", ("main", "s"), WrongKind),
                ("create_clone", ("v", "n"), WrongKind), ("create_clone", ("s", "t"), Exists),
                ("restore_volume", ("no", "s"), NoVolume), ("restore_volume", ("v", "no"), NoVolume),
                ("restore_volume", ("main", "no"), NoVolume), ("restore_volume", ("main", "s"), Busy),
                ("restore_volume", ("main", "main"), Busy), ("restore_volume", ("t", "t"), ReadOnly),
                ("restore_volume", ("t", "v"), ReadOnly), ("restore_volume", ("v", "s"), WrongKind),
                ("restore_volume", ("v", "v"), WrongKind), ("restore_volume", ("v", "main"), WrongKind),
                ("delete_volume", ("no",), NoVolume), ("delete_volume", ("main",), Busy),
                ("delete_volume", ("v",), NotEmpty)):
            self.refuse(error, name, *given)
        for at in range(4):
            self.ask("create_volume", f"n{at}")
        for name, given, error in (
                ("create_volume", ("main",), Exists), ("create_volume", ("x",), TooMany),
                ("create_snapshot", ("main", "x"), TooMany), ("create_snapshot", ("main", "s"), Exists),
                ("create_clone", ("s", "x"), TooMany), ("create_clone", ("main", "x"), WrongKind)):
            self.refuse(error, name, *given)

    def test_limits(self):
        self.start()
        self.ask("put_owner", 1, 0, None, None)
        for path in ("a", "d"):
            self.ask("give_path", path, 1)
        self.ask("create_snapshot", "main", "n")
        self.ask("put_owner", 1, 0, 7, None)
        self.refuse(OverQuota, "create_clone", "n", "x")
        self.ask("put_owner", 1, 0, 8, 3)
        self.refuse(OverQuota, "create_clone", "n", "x")
        self.ask("put_owner", 1, 0, 8, 4)
        self.ask("create_clone", "n", "x")
        self.assertEqual(self.ask("owner_usage", 1), (8, 4))
        self.ask("create_snapshot", "x", "y")
        self.ask("unlink_file", "@x/a")
        self.ask("put_owner", 1, 0, 6, None)
        self.refuse(OverQuota, "restore_volume", "x", "y")
        self.ask("put_owner", 1, 0, 8, 4)
        self.ask("restore_volume", "x", "y")
        self.assertEqual(self.ask("owner_usage", 1), (8, 4))
        self.ask("delete_volume", "y")
        self.ask("delete_volume", "x")
        self.assertEqual(self.ask("owner_usage", 1), (4, 2))

    def test_busy(self):
        self.start()
        self.ask("create_clone", "t", "c")
        self.ask("create_snapshot", "c", "u")
        self.ask("fork_process")
        self.open("@c/a", "r", process=1)
        for name, given in (("restore_volume", ("c", "u")), ("restore_volume", ("c", "t")), ("delete_volume", ("c",))):
            self.refuse(Busy, name, *given)
        self.ask("close_file", 0, process=1)
        self.ask("enter_directory", "@c", process=1)
        for name, given in (("restore_volume", ("c", "u")), ("restore_volume", ("c", "v")), ("delete_volume", ("c",))):
            self.refuse(Busy, name, *given)
        # A snapshot that is in use is no hindrance to rolling back to it, but it cannot be dropped.
        self.ask("enter_directory", "@u", process=1)
        self.open("@u/a", "r")
        self.refuse(NotEmpty, "delete_volume", "c")
        self.ask("restore_volume", "c", "u")
        self.refuse(Busy, "delete_volume", "u")
        self.ask("enter_directory", "@main", process=1)
        self.refuse(Busy, "delete_volume", "u")
        self.refuse(Busy, "restore_volume", "u", "u")
        self.ask("close_file", 0)
        self.ask("delete_volume", "u")
        self.ask("delete_volume", "c")
        self.assertEqual([row[0] for row in self.ask("show_volumes")], ["main", "s", "t", "v"])

    def test_the_only_writable_volume(self):
        self.start()
        self.ask("enter_directory", "@s")
        self.refuse(NotEmpty, "delete_volume", "main")
        self.ask("delete_volume", "t")
        self.ask("delete_volume", "v")
        self.refuse(Busy, "delete_volume", "main")

    def test_rolling_back(self):
        self.start()
        state = self.system.state()
        self.ask("unlink_file", "@v/a")
        self.ask("make_directory", "@v/x")
        usage = self.ask("owner_usage", 0)
        self.ask("restore_volume", "v", "t")
        self.assertEqual(self.system.state(), state)
        self.assertEqual(self.ask("owner_usage", 0), (usage[0] + 3, usage[1]))
        self.assert_all()

    def test_orphans_of_snapshots(self):
        self.start()
        self.open("@v/a")
        self.ask("unlink_file", "@v/a")
        self.ask("create_snapshot", "v", "n")
        self.ask("create_clone", "n", "c")
        self.assertEqual([find_orphans(self.store, name) for name in ("v", "n", "c")], [[2], [2], []])
        self.ask("close_file", 0)
        self.ask("restore_volume", "v", "n")
        self.assertEqual([find_orphans(self.store, name) for name in ("v", "n", "c")], [[], [2], []])
        self.assert_all()

    def test_no_space(self):
        for name, given in (
                ("create_volume", ("n",)), ("create_snapshot", ("main", "n")), ("create_clone", ("t", "n")),
                ("restore_volume", ("v", "t")), ("put_owner", (1, 0, None, None))):
            self.start()
            self.assert_needs_room(60, name, *given)
        for name, given in (("delete_volume", ("t",)), ("delete_owner", (1,))):
            self.start()
            self.ask("put_owner", 1, 0, None, None)
            self.commit()
            fill(self.store, 20)
            self.ask(name, *given)
            self.assertEqual((self.store.space.pending(), waiting_roots(self.store)), (0, []))


class OwnerTest(AdminCase):

    def test_owners(self):
        self.start()
        self.ask("put_owner", 3, 0, 10, None)
        self.ask("put_owner", 2, 3, None, 100000)
        rows = [(0, None, None, None), (2, 3, None, 100000), (3, 0, 10, None)]
        self.assertEqual(self.assert_unchanged("show_owners"), rows)
        self.ask("give_path", "a", 2)
        self.assertEqual(
            [self.assert_unchanged("owner_usage", owner) for owner in (0, 1, 2, 3)],
            [(11, 6), (0, 0), (3, 1), (3, 1)])
        self.assertEqual(self.system.state()[1], rows[1:])

    def test_exceptions(self):
        self.start()
        for owner in range(1, 8):
            self.ask("put_owner", owner, owner - 1, None, None)
        for given, error in (
                ((9, 9, None, None), Missing), ((9, 255, None, None), Missing), ((1, 1, None, None), LoopFound),
                ((1, 7, None, None), LoopFound), ((3, 4, 5, 5), LoopFound)):
            self.refuse(error, "put_owner", *given)
        self.ask("put_owner", 8, 7, None, None)
        for given, error in (
                ((9, 9, None, None), Missing), ((9, 0, None, None), TooMany), ((9, 8, None, None), TooMany),
                ((8, 8, None, None), LoopFound)):
            self.refuse(error, "put_owner", *given)
        self.ask("put_owner", 8, 0, 4, 4)

    def test_deleting(self):
        self.start()
        self.ask("put_owner", 1, 0, None, None)
        self.ask("put_owner", 2, 1, None, None)
        self.ask("give_path", "a", 1)
        self.ask("fork_process")
        self.ask("become", 1, process=1)
        self.refuse(Missing, "delete_owner", 3)
        self.refuse(Busy, "delete_owner", 1)
        self.ask("become", 2, process=1)
        self.refuse(NotEmpty, "delete_owner", 1)
        self.refuse(Busy, "delete_owner", 2)
        self.ask("end_process", process=1)
        self.ask("delete_owner", 2)
        self.refuse(Missing, "delete_owner", 2)
        self.refuse(Busy, "delete_owner", 1)
        self.ask("give_path", "a", 0)
        self.ask("delete_owner", 1)
        self.assertEqual(self.ask("show_owners"), [(0, None, None, None)])

    def test_an_owner_of_a_snapshot_only(self):
        self.start()
        self.ask("put_owner", 1, 0, None, None)
        self.ask("give_path", "a", 1)
        self.ask("create_snapshot", "main", "n")
        self.ask("give_path", "a", 0)
        self.ask("delete_owner", 1)
        self.ask("create_clone", "n", "c")
        self.assertEqual((self.ask("owner_usage", 1), self.ask("describe", "@c/a")[5]), ((3, 1), 1))
        self.assert_all()


class SyncTest(AdminCase):

    def lasting(self):
        """The state after a power failure without kept writes."""
        system = copy_of(self.system)
        system.cut([])
        system.mount()
        return system.state()

    def test_what_lasts(self):
        self.start()
        self.commit()
        state = self.system.state()
        self.open()
        self.ask("write_cells", 0, [7])
        self.ask("rename_path", "d/e", "e")
        self.assertEqual(self.lasting(), state)
        self.assertIs(self.ask("sync_file", 0), None)
        state = self.system.state()
        self.ask("unlink_file", "a")
        self.assertEqual(self.lasting(), state)
        self.assertIs(self.ask("sync_all"), None)
        self.assertNotEqual(self.lasting(), state)
        self.assertEqual(self.lasting(), self.system.state())

    def test_a_file_makes_everything_last(self):
        self.start()
        self.open()
        self.ask("make_directory", "@v/x")
        self.ask("unlink_file", "@v/a")
        generation = self.store.head.generation
        self.store.use_reserve(7)
        self.ask("sync_file", 0)
        self.assertEqual((self.store.head.generation, self.store.reserve), (generation, 7))
        self.assertEqual(self.session.logged, len(self.session.changes))
        self.assertEqual(self.lasting(), self.system.state())

    def test_the_sectors_of_the_log(self):
        self.start()
        self.commit()
        self.open()
        before = self.system.image()
        self.ask("write_cells", 0, [7])
        self.ask("sync_file", 0)
        expected = record_sectors((6, MAIN, 4, 0, 7), 1, self.store.head.generation)
        self.assertEqual(self.system.image()[4:4 + len(expected)], expected)
        self.assertEqual(self.system.image()[4 + len(expected):], before[4 + len(expected):])
        self.assert_unchanged("sync_file", 0)

    def test_changes_that_do_not_fit_into_the_log(self):
        self.start()
        self.open()
        self.ask("write_cells", 0, [7] * 100)
        generation = self.store.head.generation
        self.ask("sync_file", 0)
        self.assertEqual((self.store.head.generation, self.session.changes), (generation + 1, []))
        self.assertEqual(self.lasting(), self.system.state())

    def test_nothing_to_make_last(self):
        self.start()
        self.open()
        self.ask("sync_all")
        self.system.fail_after(0)
        for name, given in (("sync_all", ()), ("sync_file", (0,))):
            self.assert_unchanged(name, *given)
        self.refuse(BadHandle, "sync_file", 1)
        self.assertLess(log_mark(self.store.disk), self.store.head.generation)

    def test_power_off(self):
        for name, given in (("sync_file", (0,)), ("sync_all", ())):
            self.start()
            self.open()
            self.ask("write_cells", 0, [1])
            self.system.fail_after(0)
            with self.assertRaises(PowerOff):
                self.ask(name, *given)
            self.assertIs(self.system.session, None)

    def test_room(self):
        self.start()
        self.commit()
        free, pending, blocks = self.assert_unchanged("room")
        used = len([at for at in range(256) if self.store.space.uses(at)])
        self.assertEqual((free, pending, blocks), (256 - used, 0, 256))
        self.ask("make_directory", "x")
        found = self.ask("room")
        space = self.store.space
        self.assertEqual(found, (
            len([at for at in range(256) if space.is_free(at)]),
            len([at for at in range(256) if space.uses(at) == 0 and space.is_held(at)]), 256))
        self.assertGreater(found[1], 0)
        SystemCase.start(self, 96)
        self.assertEqual(self.ask("room"), (89, 0, 96))

    def test_room_after_a_refused_call(self):
        self.start()
        self.commit()
        fill(self.store, 60)
        self.refuse_as_it_is(NoSpace, "create_volume", "n")
        self.assertEqual(self.ask("room"), (60, 0, 256))


if __name__ == "__main__":
    unittest.main()
