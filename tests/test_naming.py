"""Calls that change names: points [120] to [125], with [48], [66], [67], [114] and [123] for files without a name."""

import unittest

from cases import GREAT, MAIN, SystemCase, copy_of, outcome, outside
from helpers import fill
from laminae.errors import (
    BadName, Busy, CrossVolume, Exists, LoopFound, Missing, NoProcess, NoSpace, NotEmpty, NotValid, NoVolume, OverQuota,
    ReadOnly, TooMany, WrongKind)
from laminae.handles import find_orphans
from laminae.words import name_word

NO_PROCESSES = (-1, 2, 4, GREAT)


def word(name):
    return name_word(name)


class NamingCase(SystemCase):

    def start(self, blocks=256):
        """Begin with /d/e/f, /g, the files /a (inode 6, 40 cells) and /d/b, a snapshot s and a volume v."""
        SystemCase.start(self, blocks)
        for path in ("d", "d/e", "d/e/f", "g"):
            self.ask("make_directory", path)
        self.make_file("a", [1] * 40)
        self.make_file("d/b")
        self.ask("create_snapshot", "main", "s")
        self.ask("create_volume", "v")
        self.ask("make_directory", "@v/d")
        self.make_file("@v/a", [2] * 5)

    def limit(self, charge=None, inodes=None):
        """Let process 0 have the owner 1 with these limits."""
        self.ask("put_owner", 1, 0, charge, inodes)
        self.ask("become", 1)

    def refuse_paths(self, name, *others):
        """Check the exceptions of following a path, which is the first argument."""
        for path, error in (
                ("//", BadName), ("@", BadName), ("@no/", BadName), ("@no//a", BadName), ("@no", NoVolume),
                ("@no/x", NoVolume), ("x", Missing), ("x/y", Missing), ("d/x/y", Missing), ("a/x", WrongKind),
                ("d/b/x/y", WrongKind), ("@s/x", Missing), ("@s/a/x", WrongKind)):
            self.refuse(error, name, path, *others)

    def refuse_places(self, name, *before):
        """Check the exceptions of a place, which is the last argument."""
        for path, error in (
                ("", BadName), ("/", BadName), ("@main", BadName), ("@no", BadName), ("//", BadName), ("@no/", BadName),
                ("@no/a", NoVolume), ("@no/a/b", NoVolume), ("x/y", Missing), ("d/x/y", Missing), ("a/x", WrongKind),
                ("a/x/y", WrongKind), ("d/b/x", WrongKind)):
            self.refuse(error, name, *before, path)

    def fill_directory(self, path, many):
        """Add names of /a to a directory until it has so many entries."""
        for at in range(many - self.ask("describe", path)[4]):
            if at % 50 == 0:
                self.make_file(f"{path}/m{at}")
            else:
                self.ask("link_file", f"{path}/m{at - at % 50}", f"{path}/m{at}")

    def deepen(self, path, many):
        """Make so many directories, each below the other."""
        for at in range(many):
            path += f"/{at}"
            self.ask("make_directory", path)
        return path


class OrderTest(NamingCase):

    def test_processes_that_do_not_exist(self):
        self.start()
        self.ask("fork_process")
        for process in NO_PROCESSES:
            for name, given in (
                    ("make_directory", ("//",)), ("remove_directory", ("//",)), ("link_file", ("//", "//")),
                    ("unlink_file", ("//",)), ("rename_path", ("//", "//")), ("give_path", ("//", 0))):
                self.refuse(NoProcess, name, *given, process=process)

    def test_owners_outside_of_their_bounds(self):
        self.start()
        for owner in outside(0, 255) + [True, None, "0"]:
            for path in ("a", "//", "@s/a"):
                for process in (0, 9):
                    self.refuse(NotValid, "give_path", path, owner, process=process)
        self.refuse(Missing, "give_path", "a", 255)
        self.assert_unchanged("give_path", "a", 0)


class MakeTest(NamingCase):

    def test_a_new_directory(self):
        self.start()
        self.limit(9, 9)
        found = self.assert_noted([(1, MAIN, 3, word("x"), 2, 1)], "make_directory", "d/e/x")
        self.assertEqual(found, 8)
        self.assertEqual(self.ask("describe", "d/e/x"), ("main", 8, 2, 1, 0, 1, 1))
        self.assertEqual(self.ask("owner_usage", 1), (1, 1))
        self.assertEqual(self.assert_noted([(1, word("v"), 1, word("a-"), 2, 1)], "make_directory", "@v/a-"), 4)
        self.assertEqual(self.store.reserve, 60)

    def test_exceptions(self):
        self.start()
        self.refuse_places("make_directory")
        for path, error in (
                ("a", Exists), ("d", Exists), ("@s/a", Exists), ("@s/d/e", Exists), ("@s/x", ReadOnly),
                ("@s/x/y", Missing), ("@s/a/y", WrongKind)):
            self.refuse(error, "make_directory", path)
        self.limit(0)
        for path, error in (("a", Exists), ("@s/a", Exists), ("@s/x", ReadOnly), ("x", OverQuota)):
            self.refuse(error, "make_directory", path)
        self.ask("put_owner", 1, 0, None, 0)
        self.refuse(OverQuota, "make_directory", "x")
        for at, limits in enumerate([(1, None), (None, 2), (3, 3)]):
            self.ask("put_owner", 1, 0, *limits)
            self.ask("make_directory", f"x{at}")
            self.refuse(OverQuota, "make_directory", "y")

    def test_bounds(self):
        self.start()
        self.fill_directory("g", 99)
        self.ask("make_directory", "g/x")
        self.refuse(TooMany, "make_directory", "g/y", full=NoSpace)
        self.ask("enter_directory", self.deepen("/g/x", 6))
        self.refuse(TooMany, "make_directory", "x", full=NoSpace)
        self.assertEqual(self.ask("open_file", "x", "wm"), 0)
        self.limit(0)
        self.refuse(OverQuota, "make_directory", "y")
        self.refuse(OverQuota, "make_directory", "/g/y")

    def test_no_space(self):
        self.start()
        self.assertEqual(self.assert_needs_room(60, "make_directory", "d/x"), 8)


class RemoveTest(NamingCase):

    def test_removing(self):
        self.start()
        self.ask("put_owner", 1, 0, None, None)
        self.ask("give_path", "g", 1)
        self.assertIs(self.assert_noted([(4, MAIN, 1, word("g"))], "remove_directory", "g"), None)
        self.assertEqual(self.ask("owner_usage", 1), (0, 0))
        self.refuse(Missing, "remove_directory", "g")
        self.assert_noted([(4, MAIN, 3, word("f"))], "remove_directory", "/d/e/f")
        self.assert_noted([(4, word("v"), 1, word("d"))], "remove_directory", "@v/d")
        self.assertEqual(self.ask("list_directory", "@s"), [("a", 6, 1), ("d", 2, 2), ("g", 5, 2)])
        self.assertEqual(self.store.reserve, 20)

    def test_exceptions(self):
        self.start()
        self.ask("fork_process")
        self.ask("enter_directory", "@s/g", process=1)
        self.refuse_paths("remove_directory")
        for path, error in (
                ("a", WrongKind), ("@s/a", WrongKind), ("", Busy), ("/", Busy), ("@v", Busy), ("@s", Busy),
                ("@s/g", Busy), ("d", NotEmpty), ("d/e", NotEmpty), ("@s/d", NotEmpty), ("@s/d/e", NotEmpty),
                ("@s/d/e/f", ReadOnly)):
            self.refuse(error, "remove_directory", path)

    def test_working_directories(self):
        self.start()
        for _ in range(2):
            self.ask("fork_process")
        self.ask("enter_directory", "g", process=1)
        self.ask("enter_directory", "d", process=2)
        for path in ("g", "@main/g", "d"):
            for process in (0, 1, 2):
                self.refuse(Busy, "remove_directory", path if path[0] == "@" else "/" + path, process=process)
        for process in (1, 2):
            self.refuse(Busy, "remove_directory", "", process=process)
        self.ask("end_process", process=1)
        self.ask("remove_directory", "g")
        # The directory with the same inode in another volume is another one.
        self.ask("enter_directory", "@v/d", process=2)
        self.refuse(NotEmpty, "remove_directory", "d")
        self.refuse(Busy, "remove_directory", "@v/d")

    def test_no_space(self):
        self.start()
        self.assert_needs_room(20, "remove_directory", "d/e/f")


class LinkTest(NamingCase):

    def test_linking(self):
        self.start()
        self.assertIs(
            self.assert_noted([(2, MAIN, 6, 3, word("x"))], "link_file", "a", "d/e/x"), None)
        self.assertEqual(self.ask("describe", "d/e/x"), ("main", 6, 1, 2, 40, 0, 3))
        self.assert_noted([(2, MAIN, 6, 1, word("y"))], "link_file", "@main/d/e/x", "y")
        self.assertEqual(self.ask("describe", "a")[3], 3)
        self.assert_noted([(2, word("v"), 3, 2, word("a"))], "link_file", "@v/a", "@v/d/a")
        self.assertEqual(self.store.reserve, 60)

    def test_exceptions(self):
        self.start()
        self.refuse_paths("link_file", "//")
        self.refuse_places("link_file", "a")
        for old, new, error in (
                ("d", "//", WrongKind), ("", "//", WrongKind), ("@s/d", "//", WrongKind), ("@v", "x", WrongKind),
                ("a", "@v/a", CrossVolume), ("a", "@s/x", CrossVolume), ("@v/a", "x", CrossVolume),
                ("a", "@v/a/x", WrongKind), ("a", "@s/d/b/x", WrongKind),
                ("@v/a", "x/y", Missing), ("a", "d", Exists), ("a", "a", Exists), ("a", "d/b", Exists),
                ("@s/a", "@s/d", Exists), ("@s/a", "@s/x", ReadOnly), ("@s/a", "@s/x/y", Missing)):
            self.refuse(error, "link_file", old, new)

    def test_bounds(self):
        self.start()
        for at in range(59):
            self.ask("link_file", "a", f"g/{at}")
        self.assertEqual(self.ask("describe", "a")[3], 60)
        self.refuse(TooMany, "link_file", "a", "x", full=NoSpace)
        self.refuse(Exists, "link_file", "a", "d")
        self.fill_directory("g", 100)
        self.refuse(TooMany, "link_file", "d/b", "g/x", full=NoSpace)
        self.refuse(Exists, "link_file", "d/b", "g/0")
        self.ask("unlink_file", "g/5")
        self.ask("link_file", "d/b", "g/x")

    def test_no_space(self):
        self.start()
        self.assert_needs_room(60, "link_file", "a", "d/x")


class UnlinkTest(NamingCase):

    def test_files_with_other_names(self):
        self.start()
        self.ask("link_file", "a", "x")
        self.assertIs(self.assert_noted([(3, MAIN, 1, word("a"))], "unlink_file", "a"), None)
        self.assertEqual(self.ask("describe", "x"), ("main", 6, 1, 1, 40, 0, 3))
        self.refuse(Missing, "unlink_file", "a")
        self.assertEqual(self.store.reserve, 20)

    def test_the_last_name(self):
        self.start()
        usage = self.ask("owner_usage", 0)
        self.assert_noted([(3, MAIN, 1, word("a")), (10, MAIN, 6)], "unlink_file", "a")
        self.assertEqual(self.ask("owner_usage", 0), (usage[0] - 3, usage[1] - 1))
        self.assertEqual(find_orphans(self.store, "main"), [])
        self.assert_noted([(3, MAIN, 2, word("b")), (10, MAIN, 7)], "unlink_file", "@main/d/b")
        self.assertEqual(self.cells("@s/a"), [1] * 40)

    def test_files_that_are_open(self):
        self.start()
        self.ask("open_file", "a", "r")
        self.ask("open_file", "@v/a", "r")
        usage = self.ask("owner_usage", 0)
        self.assert_noted([(3, MAIN, 1, word("a"))], "unlink_file", "a")
        self.assertEqual((find_orphans(self.store, "main"), self.ask("owner_usage", 0)), ([6], usage))
        self.assertEqual(self.ask("make_directory", "x"), 8)
        self.assert_noted([(3, word("v"), 1, word("a"))], "unlink_file", "@v/a")
        self.ask("close_file", 0)
        self.ask("close_file", 1)
        self.assertEqual((find_orphans(self.store, "main"), find_orphans(self.store, "v")), ([], []))

    def test_exceptions(self):
        self.start()
        self.refuse_paths("unlink_file")
        for path, error in (
                ("d", WrongKind), ("", WrongKind), ("/", WrongKind), ("@s", WrongKind), ("@s/d", WrongKind),
                ("@s/a", ReadOnly), ("@s/d/b", ReadOnly)):
            self.refuse(error, "unlink_file", path)

    def test_no_space(self):
        self.start()
        self.ask("open_file", "a", "r")
        self.assert_needs_room(20, "unlink_file", "a")

    def test_a_file_for_whose_removal_there_is_no_room(self):
        self.start()
        self.make_file("x", [1] * 300)
        self.commit()
        usage, saved = self.ask("owner_usage", 0), self.store.saved()
        noted = []
        for left in range(20, 40):
            fill(self.store, left)
            system = copy_of(self.system)
            try:
                system.ask("unlink_file", 0, "x")
            except NoSpace:
                noted.append(None)
                self.store.restore(saved)
                continue
            noted.append([intent[0] for intent in system.session.changes])
            left_over = noted[-1] == [3]
            self.assertEqual(find_orphans(system.session.store, "main"), [8] if left_over else [])
            self.assertEqual(system.ask("owner_usage", 0, 0), usage if left_over else (usage[0] - 11, usage[1] - 1))
            self.assertEqual(system.session.store.reserve, 20)
            # It stays charged, and the next mount removes it.
            system.ask("sync_all", 0)
            state = system.state()
            system.cut([])
            system.mount()
            self.assertEqual((find_orphans(system.session.store, "main"), system.state()), ([], state))
            self.assertEqual(system.ask("owner_usage", 0, 0), (usage[0] - 11, usage[1] - 1))
            self.store.restore(saved)
        self.assertEqual(
            noted, [None] * noted.count(None) + [[3]] * noted.count([3]) + [[3, 10]] * noted.count([3, 10]))
        self.assertTrue(all(noted.count(kind) for kind in (None, [3], [3, 10])), noted)


class RenameTest(NamingCase):

    def test_files_and_directories(self):
        self.start()
        self.assertIs(
            self.assert_noted([(5, MAIN, 1, word("a"), 3, word("x"))], "rename_path", "a", "d/e/x"), None)
        self.assertEqual(self.ask("describe", "d/e/x"), ("main", 6, 1, 1, 40, 0, 3))
        self.refuse(Missing, "describe", "a")
        self.assert_noted([(5, MAIN, 2, word("e"), 5, word("e"))], "rename_path", "/d/e", "g/e")
        self.assertEqual(self.ask("list_directory", "g/e"), [("f", 4, 2), ("x", 6, 1)])
        self.assert_noted([(5, MAIN, 1, word("g"), 1, word("h"))], "rename_path", "g", "h")
        self.assertEqual(self.ask("list_directory", ""), [("d", 2, 2), ("h", 5, 2)])
        self.assertEqual(self.store.reserve, 60)

    def test_onto_the_same_inode(self):
        self.start()
        self.ask("link_file", "a", "d/x")
        self.ask("link_file", "@v/a", "@v/x")
        self.ask("create_snapshot", "main", "t")
        for old, new in (("a", "a"), ("a", "d/x"), ("d/x", "/a"), ("d", "/d"), ("d/e", "@main/d/e"), ("@t/a", "@t/d/x"),
                         ("@t/d", "@t/d"), ("@v/a", "@v/x")):
            self.assertIs(self.assert_unchanged("rename_path", old, new), None)

    def test_the_working_directory_may_be_renamed(self):
        self.start()
        self.ask("enter_directory", "d/e")
        self.ask("rename_path", "/d", "/g/d")
        self.assertEqual(self.ask("current_path"), "@main/g/d/e")
        self.ask("rename_path", "/g/d/e", "/e")
        self.assertEqual((self.ask("current_path"), self.ask("describe", "")[1]), ("@main/e", 3))
        self.assert_unchanged("rename_path", "/e", "/e")

    def test_exceptions(self):
        self.start()
        self.ask("fork_process")
        self.ask("enter_directory", "@s/g", process=1)
        self.refuse_paths("rename_path", "//")
        self.refuse_places("rename_path", "a")
        for old, new, error in (
                ("", "//", Busy), ("/", "x", Busy), ("@v", "@no/x", Busy), ("@s", "x", Busy),
                ("a", "@v/a", CrossVolume), ("@v/a", "a", CrossVolume), ("d", "@s/d/e/f", CrossVolume),
                ("a", "@v/a/x", WrongKind), ("d", "@s/d/b/x", WrongKind),
                ("@s/a", "@s/x", ReadOnly),
                ("@s/a", "@s/g", ReadOnly), ("@s/d", "@s/d/e/f/x", ReadOnly), ("@s/a", "@s/d", ReadOnly)):
            self.refuse(error, "rename_path", old, new)
        for old, new, error in (
                ("d", "d/x", LoopFound), ("d", "d/e/x", LoopFound), ("d", "d/e", LoopFound), ("d", "d/b", LoopFound),
                ("d/e", "d/e/f", LoopFound), ("a", "d", WrongKind), ("a", "g", WrongKind), ("d", "a", WrongKind),
                ("g", "a", WrongKind), ("g", "d", NotEmpty), ("d/e", "d", NotEmpty), ("d/e/f", "d", NotEmpty)):
            self.refuse(error, "rename_path", old, new, full=NoSpace)

    def test_onto_working_directories(self):
        self.start()
        self.ask("fork_process")
        for path in ("g", "d/e/f", "d"):
            self.ask("enter_directory", "/" + path, process=1)
            for old in ("a", "d/b", "d/e", "d/e/f", "g"):
                if self.ask("describe", old)[1] != self.ask("describe", path)[1]:
                    self.refuse(Busy, "rename_path", old, path)
        self.ask("enter_directory", "@v", process=1)
        self.ask("rename_path", "d/e/f", "g")

    def test_onto_a_file(self):
        self.start()
        self.ask("link_file", "d/b", "d/x")
        self.assert_noted([(5, MAIN, 1, word("a"), 2, word("b"))], "rename_path", "a", "d/b")
        self.assertEqual((self.ask("describe", "d/b")[1], self.ask("describe", "d/x")[3]), (6, 1))
        usage = self.ask("owner_usage", 0)
        self.assert_noted([(5, MAIN, 2, word("x"), 2, word("b")), (10, MAIN, 6)], "rename_path", "d/x", "d/b")
        self.assertEqual(self.ask("owner_usage", 0), (usage[0] - 3, usage[1] - 1))
        self.assertEqual(self.ask("list_directory", "d"), [("b", 7, 1), ("e", 3, 2)])
        self.assertEqual(self.store.reserve, 60)

    def test_onto_a_file_that_is_open(self):
        self.start()
        self.ask("open_file", "d/b", "rw")
        self.assert_noted([(5, MAIN, 1, word("a"), 2, word("b"))], "rename_path", "a", "d/b")
        self.assertEqual(find_orphans(self.store, "main"), [7])
        self.assertEqual(self.ask("describe_open", 0), ("main", 7, 1, 0, 0, 0, 1))
        self.assert_noted([(10, MAIN, 7)], "close_file", 0)
        # What is moved may be open, too.
        self.ask("open_file", "d/b", "rw")
        self.make_file("y", [5])
        self.assert_noted(
            [(5, MAIN, 2, word("b"), 1, word("y")), (10, MAIN, 7)], "rename_path", "d/b", "y")
        self.assertEqual(self.ask("read_cells", 0, 50), [1] * 40)

    def test_onto_a_directory(self):
        self.start()
        self.ask("put_owner", 1, 0, None, None)
        self.ask("give_path", "g", 1)
        usage = self.ask("owner_usage", 0)
        self.assert_noted([(5, MAIN, 2, word("e"), 1, word("g"))], "rename_path", "d/e", "g")
        self.assertEqual((self.ask("owner_usage", 1), self.ask("describe", "g")[1]), ((0, 0), 3))
        self.assertEqual(self.ask("owner_usage", 0), (usage[0] - 1, usage[1] - 1))
        self.assertEqual(self.ask("list_directory", ""), [("a", 6, 1), ("d", 2, 2), ("g", 3, 2)])

    def test_bounds(self):
        self.start()
        self.fill_directory("g", 100)
        self.refuse(TooMany, "rename_path", "a", "g/x", full=NoSpace)
        self.refuse(TooMany, "rename_path", "d", "g/x", full=NoSpace)
        self.ask("rename_path", "a", "g/m1")
        self.refuse(TooMany, "rename_path", "g/m1", "g/x", full=NoSpace)
        self.ask("make_directory", "h")
        path = self.deepen("/h", 5)
        # The depth of the target, one step, and the height of /d, which is 2.
        self.ask("rename_path", "d", path[:-2] + "/d")
        self.ask("rename_path", path[:-2] + "/d", "/d")
        self.refuse(TooMany, "rename_path", "d", path + "/d", full=NoSpace)
        self.ask("rename_path", "d/e/f", path + "/f")
        self.ask("rename_path", "d", path + "/d")

    def test_onto_another_file_in_a_directory_that_is_full(self):
        self.start()
        self.fill_directory("g", 100)
        self.ask("rename_path", "d/b", "g/m7")
        self.assertEqual(self.ask("describe", "g")[4], 100)
        self.assert_all()

    def test_no_space(self):
        self.start()
        self.ask("open_file", "d/b", "r")
        self.assert_needs_room(60, "rename_path", "a", "d/b")

    def test_the_removal_of_a_file_has_another_reserve(self):
        self.start()
        self.make_file("x", [1] * 2048)
        self.commit()
        saved, needed = self.store.saved(), 0
        found = NoSpace
        while found is NoSpace:
            self.store.restore(saved)
            fill(self.store, 60 + needed)
            needed += 1
            found = outcome(self.ask, "rename_path", "a", "x")[1]
        # The move alone leaves no more than its reserve, and the removal of the file is done all the same.
        self.assertEqual([intent[0] for intent in self.session.changes], [5, 10])
        self.assertEqual((find_orphans(self.store, "main"), self.store.reserve), ([], 60))


class GiveTest(NamingCase):

    def test_giving(self):
        self.start()
        self.ask("put_owner", 255, 0, None, None)
        self.ask("put_owner", 1, 255, None, None)
        usage = self.ask("owner_usage", 0)
        self.assertIs(self.assert_noted([(9, MAIN, 6, 255)], "give_path", "a", 255), None)
        self.assertEqual(self.ask("describe", "a"), ("main", 6, 1, 1, 40, 255, 3))
        self.assertEqual([self.ask("owner_usage", owner) for owner in (0, 255, 1)], [usage, (3, 1), (0, 0)])
        self.assert_noted([(9, MAIN, 1, 1)], "give_path", "/", 1)
        self.assert_noted([(9, MAIN, 2, 1)], "give_path", "d", 1)
        self.assert_noted([(9, word("v"), 1, 1)], "give_path", "@v", 1)
        self.assertEqual([self.ask("owner_usage", owner) for owner in (0, 255, 1)], [usage, (6, 4), (3, 3)])
        self.assert_noted([(9, MAIN, 6, 0)], "give_path", "a", 0)
        self.assertEqual(self.store.reserve, 60)

    def test_the_same_owner(self):
        self.start()
        self.ask("put_owner", 1, 0, 0, 0)
        for path in ("a", "/", "d/b", "@v"):
            self.assertIs(self.assert_unchanged("give_path", path, 0), None)
        self.ask("put_owner", 1, 0, None, None)
        self.ask("give_path", "a", 1)
        self.ask("put_owner", 1, 0, 0, 0)
        self.assert_unchanged("give_path", "a", 1)

    def test_exceptions(self):
        self.start()
        self.refuse_paths("give_path", 9)
        for path, owner, error in (
                ("@s/a", 0, ReadOnly), ("@s", 9, ReadOnly), ("a", 9, Missing), ("", 1, Missing), ("a", 255, Missing)):
            self.refuse(error, "give_path", path, owner)

    def test_limits(self):
        self.start()
        self.ask("put_owner", 1, 0, 4, 2)
        self.ask("put_owner", 2, 1, None, None)
        self.ask("give_path", "a", 2)
        self.assertEqual(self.ask("owner_usage", 1), (3, 1))
        self.ask("give_path", "g", 2)
        self.refuse(OverQuota, "give_path", "d", 1)
        self.refuse(OverQuota, "give_path", "d", 2)
        # Within the chain of 1 nothing is added to 1.
        self.ask("give_path", "a", 1)
        self.ask("put_owner", 2, 1, 0, 0)
        self.refuse(OverQuota, "give_path", "a", 2)
        self.ask("give_path", "g", 1)
        self.ask("put_owner", 1, 0, None, 2)
        self.refuse(OverQuota, "give_path", "d", 1)
        self.ask("put_owner", 1, 0, 5, 3)
        self.ask("give_path", "d", 1)
        self.refuse(OverQuota, "give_path", "d/e", 1)

    def test_no_space(self):
        self.start()
        self.ask("put_owner", 1, 0, None, None)
        self.assert_needs_room(60, "give_path", "a", 1)


class FullTest(SystemCase):

    def test_a_full_disk_can_be_emptied_again(self):
        for blocks in (96, 120):
            self.start(blocks)
            free = self.ask("room")[0]
            made = []
            while True:
                try:
                    name = f"f{len(made)}"
                    descriptor = self.ask("open_file", name, "wm")
                    made.append(name)
                    self.ask("write_cells", descriptor, [7] * 100)
                    self.ask("close_file", descriptor)
                except NoSpace:
                    break
            self.assertGreater(len(made), 3)
            self.assertEqual(self.session.handles.open_files() != [], len(self.session.handles.open_files()) == 1)
            for row in self.session.processes.list_processes()[0][4]:
                self.ask("close_file", row[0])
            for name in made:
                self.ask("unlink_file", name)
            self.assertEqual(find_orphans(self.store, "main"), [])
            self.ask("sync_all")
            self.assertEqual((self.ask("room"), self.ask("list_directory", "")), ((free, 0, blocks), []))


if __name__ == "__main__":
    unittest.main()
