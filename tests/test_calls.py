"""Calls: points [110] to [119], [105], [94], [24], [60], [84] and [86]."""

import itertools
import random
import unittest

from cases import GREAT, MAIN, SystemCase, copy_of, outside
from helpers import fill
from laminae.checks import reached
from laminae.errors import (
    BadHandle, BadName, CrossVolume, Exists, Missing, NoProcess, NoSpace, NotValid, NoVolume, OverQuota, ReadOnly,
    TooLong, TooMany, WrongKind)
from laminae.handles import find_orphans
from laminae.words import name_word

NO_PROCESSES = (-1, 1, 4, GREAT, -GREAT)
A, B = name_word("a"), name_word("b")


def is_good(mode):
    """Whether a mode is valid, as [115] says it."""
    letters = set(mode)
    if letters - set("rwamnc") or len(letters) < len(mode):
        return False
    if not letters & {"r", "w"}:
        return False
    if letters & {"a", "m", "c"} and "w" not in letters:
        return False
    return "n" not in letters or "m" in letters


class CallCase(SystemCase):

    def start(self, blocks=256):
        """Begin with the directory /d, the files /a (40 cells), /d/b (empty) and a snapshot s and a volume v."""
        SystemCase.start(self, blocks)
        self.ask("make_directory", "d")
        self.make_file("a", [1] * 40)
        self.make_file("d/b")
        self.ask("create_snapshot", "main", "s")
        self.ask("create_volume", "v")
        self.make_file("@v/a", [2] * 5)

    def limit(self, charge=None, inodes=None):
        """Let process 0 have the owner 1 with these limits."""
        self.ask("put_owner", 1, 0, charge, inodes)
        self.ask("become", 1)

    def open(self, path, mode, process=0):
        return self.ask("open_file", path, mode, process=process)


class OrderTest(CallCase):

    def test_processes_that_do_not_exist(self):
        self.start()
        self.open("a", "rw")
        for process in NO_PROCESSES:
            for name, given in (
                    ("open_file", ("", "r")), ("open_file", ("@no/x", "rwm")), ("close_file", (0,)),
                    ("close_file", (5,)), ("read_cells", (0, 1)), ("read_cells", (5, 1)), ("write_cells", (0, [1])),
                    ("write_cells", (5, [])), ("move_to", (0, 0)), ("resize", (0, 0)), ("resize", (5, 0)),
                    ("share_units", (0, 0, 0, 0, 1)), ("share_units", (5, 0, 0, 0, 1)), ("describe", ("//",)),
                    ("describe_open", (5,)), ("list_directory", ("//",))):
                self.refuse(NoProcess, name, *given, process=process)

    def test_numbers_outside_of_their_bounds(self):
        self.start()
        self.open("a", "rw")
        good = {
            "close_file": [0], "describe_open": [0], "read_cells": [0, 1], "move_to": [0, 0], "resize": [0, 0],
            "share_units": [0, 0, 0, 1, 1], "write_cells": [0, [1]]}
        bounds = {
            "read_cells": [(0, 7), (0, 2048)], "move_to": [(0, 7), (0, 2048)], "resize": [(0, 7), (0, 2048)],
            "share_units": [(0, 7), (0, 63), (0, 7), (0, 63), (1, 63)]}
        for name, given in good.items():
            for at, (low, high) in enumerate(bounds.get(name, [(0, 7)])):
                for value in outside(low, high) + [True, None, "1"]:
                    for process in (0, -1):
                        self.refuse(NotValid, name, *given[:at], value, *given[at + 1:], process=process)
        for first, at, units in ((0, 0, 65), (1, 0, 64), (0, 1, 64), (63, 0, 2), (0, 63, 2), (63, 63, 0), (5, 60, 5)):
            self.refuse(NotValid, "share_units", 0, first, 0, at, units)
            self.refuse(NotValid, "share_units", 7, first, 7, at, units, process=9)

    def test_the_bounds_themselves(self):
        self.start()
        for name, given in (
                ("read_cells", (7, 2048)), ("move_to", (7, 2048)), ("resize", (7, 2048)), ("close_file", (7,)),
                ("describe_open", (7,)), ("write_cells", (7, [GREAT] * 2048)), ("share_units", (7, 0, 7, 0, 64)),
                ("share_units", (7, 63, 7, 0, 1)), ("share_units", (0, 0, 0, 63, 1)), ("read_cells", (0, 0)),
                ("move_to", (0, 0)), ("resize", (0, 0)), ("share_units", (0, 10, 0, 20, 44))):
            self.refuse(BadHandle, name, *given)

    def test_cells_that_are_not_valid(self):
        self.start()
        self.open("a", "rw")
        for cells in ([-1], [0, -1], [True], [None], ["1"], [[1]], [1] * 2049, [-1] * 3000, (1, 2), None, "12", 5, {}):
            for descriptor in (0, 3):
                for process in (0, 9):
                    self.refuse(NotValid, "write_cells", descriptor, cells, process=process)
        self.refuse(NotValid, "write_cells", 8, [1])

    def test_what_was_passed_and_returned_is_not_changed_later(self):
        self.start()
        self.open("a", "rw")
        cells = [5, 6, 7]
        self.ask("write_cells", 0, cells)
        cells.append(9)
        cells[0] = 99
        self.assertEqual(self.session.changes[-1][4:], (5, 6, 7))
        self.ask("move_to", 0, 0)
        found = self.ask("read_cells", 0, 4)
        self.assertEqual(found, [5, 6, 7, 1])
        self.ask("move_to", 0, 0)
        self.ask("write_cells", 0, [8])
        self.assertEqual(found, [5, 6, 7, 1])
        found[1] = 77
        self.ask("move_to", 0, 0)
        self.assertEqual(self.ask("read_cells", 0, 3), [8, 6, 7])
        rows = self.ask("list_directory", "")
        state = self.system.state()
        kept = copy_of((rows, state))
        self.ask("make_directory", "x")
        self.make_file("d/y", [1])
        self.assertEqual((rows, state), kept)


class OpenTest(CallCase):

    def test_every_mode(self):
        self.start()
        modes = ["".join(letters) for many in range(7) for letters in itertools.permutations("rwamnc", many)]
        modes = [mode for at, mode in enumerate(modes) if len(mode) < 4 or at % 7 == 0]
        for mode in modes:
            if not is_good(mode):
                self.assertRaises(NotValid, self.open, "a", mode)
                self.assertRaises(NotValid, self.open, "//", mode, process=5)
                continue
            path = "new" if "n" in mode else "a"
            descriptor = self.open(path, mode)
            kept = "".join(letter for letter in "rwa" if letter in mode)
            self.assertEqual(self.session.handles.open_files(), [
                (0, "main", self.ask("describe", path)[1], kept, 0, 1)])
            self.assertEqual(descriptor, 0)
            self.assertEqual(self.ask("describe", path)[4], 0 if {"n", "c"} & set(mode) else 40)
            if "n" in mode:
                self.ask("unlink_file", path)
            elif "c" in mode:
                self.open("a", "w")
                self.ask("write_cells", 1, [1] * 40)
                self.ask("close_file", 1)
            self.ask("close_file", 0)
        self.assert_all()

    def test_modes_that_are_not_valid(self):
        self.start()
        for mode in (
                "", "x", "R", "rr", "ww", "rwr", "a", "m", "n", "c", "am", "ra", "rm", "rc", "rn", "wn", "rwn", "rwx",
                "r ", " r", "rwmm", "rmn", "+", "rw\n", None, 5, ["r"]):
            for path in ("a", "//", "@no/a"):
                for process in (0, 7):
                    self.refuse_as_it_is(NotValid, "open_file", path, mode, process=process)

    def test_descriptors_and_numbers(self):
        self.start()
        self.assertEqual([self.open("a", "r") for _ in range(8)], list(range(8)))
        for mode in ("r", "rw", "rwc", "rwm"):
            self.refuse(TooMany, "open_file", "a", mode)
        self.refuse(TooMany, "open_file", "new", "wm")
        self.ask("close_file", 3)
        self.ask("close_file", 1)
        self.assertEqual([self.open("a", "w"), self.open("new", "wm")], [1, 3])
        self.assertEqual([row[0] for row in self.session.handles.open_files()], list(range(8)))

    def test_the_order_of_the_exceptions(self):
        self.start()
        for path, mode, error in (
                ("", "r", BadName), ("/", "rwm", BadName), ("@main", "r", BadName), ("@no", "r", BadName),
                ("a//b", "r", BadName), ("@no/UP", "rw", BadName), ("@no/a", "rwmn", NoVolume),
                ("x/b", "rwm", Missing), ("a/b", "rwm", WrongKind), ("a/b/c", "rwm", WrongKind),
                ("d/b/c", "r", WrongKind), ("d/x", "r", Missing), ("d/x", "rwc", Missing), ("@s/x", "rw", Missing),
                ("a", "rwmn", Exists), ("d", "rwmn", Exists), ("@s/a", "rwmn", Exists), ("d", "r", WrongKind),
                ("d", "rwmc", WrongKind), ("@s/d", "rw", WrongKind), ("@s/a", "rw", ReadOnly), ("@s/a", "w", ReadOnly),
                ("@s/a", "wc", ReadOnly), ("@s/new", "wm", ReadOnly), ("@s/new", "rwmnca", ReadOnly)):
            self.refuse(error, "open_file", path, mode)
        for _ in range(8):
            self.open("@s/a", "r")
        for path, mode, error in (
                ("@s/a", "w", ReadOnly), ("d", "r", WrongKind), ("a", "rwmn", Exists), ("x", "r", Missing),
                ("@s/a", "r", TooMany), ("a", "rwc", TooMany), ("new", "wm", TooMany)):
            self.refuse(error, "open_file", path, mode)
        self.ask("close_file", 0)
        self.ask("give_path", "/d", 0)
        self.limit(0, 5)
        self.refuse(OverQuota, "open_file", "new", "wm")
        self.assertEqual(self.open("a", "rwc"), 0)
        self.refuse(TooMany, "open_file", "new", "wm")
        self.ask("close_file", 5)
        self.ask("put_owner", 1, 0, None, 0)
        self.refuse(OverQuota, "open_file", "new", "wm")
        self.refuse(ReadOnly, "open_file", "@s/new", "wm")
        for at, limits in enumerate([(1, None), (None, 2), (3, 3)]):
            self.ask("put_owner", 1, 0, *limits)
            self.assertEqual(self.open(f"x{at}", "wm"), 5)
            self.ask("close_file", 5)
            self.refuse(OverQuota, "open_file", "y", "wm")

    def test_a_directory_that_is_full(self):
        self.start()
        self.limit()
        for at in range(98):
            self.ask("link_file", "d/b" if at < 59 else "a", f"n{at}")
        self.assertEqual(self.ask("describe", "/")[4], 100)
        self.refuse(TooMany, "open_file", "new", "wm", full=NoSpace)
        self.assertEqual(self.open("d/new", "wm"), 0)
        self.ask("put_owner", 1, 0, 0, None)
        self.refuse(OverQuota, "open_file", "new", "wm")
        self.assertEqual(self.open("n3", "wm"), 1)

    def test_a_file_that_is_made(self):
        self.start()
        self.limit(9, 4)
        before = self.ask("room")
        descriptor = self.assert_noted([(1, MAIN, 2, A, 1, 1)], "open_file", "d/a", "rwmn")
        self.assertEqual(self.ask("describe", "d/a"), ("main", 5, 1, 1, 0, 1, 1))
        self.assertEqual(self.ask("owner_usage", 1), (1, 1))
        self.assertLess(self.ask("room")[0], before[0])
        self.assertEqual((descriptor, self.ask("read_cells", 0, 5)), (0, []))
        self.assert_noted([(1, name_word("v"), 1, B, 1, 1)], "open_file", "@v/b", "wma")
        self.assertEqual(self.session.handles.open_files()[1], (1, "v", 3, "wa", 0, 1))
        self.assert_noted([], "open_file", "d/a", "wm")

    def test_cutting(self):
        self.start()
        self.open("a", "r")
        self.ask("move_to", 0, 30)
        self.assertEqual(self.ask("owner_usage", 0)[0], 9)
        self.assert_noted([(7, MAIN, 3, 0)], "open_file", "a", "wc")
        self.assertEqual((self.ask("describe", "a")[4], self.ask("owner_usage", 0)[0]), (0, 7))
        self.assertEqual([row[4] for row in self.session.handles.open_files()], [30, 0])
        # An empty file is not changed by cutting.
        before = self.store.table
        self.assert_noted([], "open_file", "a", "rwmc")
        self.assertEqual(self.store.table, before)
        self.assertEqual(len(self.session.handles.open_files()), 3)

    def test_what_opening_changes(self):
        self.start()
        for mode in ("r", "w", "rw", "wa", "rwa"):
            self.store.use_reserve(7)
            self.assert_unchanged("open_file", "a", mode)
            self.assertEqual(self.store.reserve, 7)
        for mode in ("wc", "wm"):
            self.store.use_reserve(7)
            self.open("d/b", mode)
            self.assertEqual(self.store.reserve, 60)

    def test_no_space(self):
        self.start()
        self.assertEqual(self.assert_needs_room(60, "open_file", "new", "wm"), 0)
        self.start()
        self.assertEqual(self.assert_needs_room(60, "open_file", "a", "rwmc"), 0)
        self.start()
        fill(self.store, 0)
        self.assertEqual([self.open("a", "rw"), self.open("d/b", "wmc")], [0, 1])


class ReadWriteTest(CallCase):

    def test_positions(self):
        self.start()
        self.open("a", "rw")
        self.open("a", "r")
        self.assertEqual(self.ask("read_cells", 0, 0), [])
        self.assertEqual(self.ask("write_cells", 0, [5, 6]), 2)
        self.assertEqual(self.ask("read_cells", 0, 2), [1, 1])
        self.assertEqual(self.ask("read_cells", 1, 3), [5, 6, 1])
        self.assertIs(self.ask("move_to", 1, 39), None)
        self.assertEqual(self.ask("read_cells", 1, 2048), [1])
        self.assertEqual([row[4] for row in self.session.handles.open_files()], [4, 40])
        for position in (40, 41, 2048):
            self.ask("move_to", 1, position)
            self.assertEqual(self.ask("read_cells", 1, 5), [])
            self.assertEqual(self.session.handles.open_files()[1][4], position)

    def test_appending(self):
        self.start()
        self.open("d/b", "rwa")
        self.open("d/b", "w")
        self.assertEqual(self.ask("write_cells", 0, [1, 2]), 2)
        self.ask("move_to", 0, 0)
        self.ask("write_cells", 1, [7])
        self.assert_noted([(6, MAIN, 4, 2, 3)], "write_cells", 0, [3])
        self.assertEqual(self.session.handles.open_files()[0][4], 3)
        self.ask("move_to", 0, 2048)
        self.ask("write_cells", 0, [4])
        self.assertEqual((self.session.handles.open_files()[0][4], self.cells("d/b")), (4, [7, 2, 3, 4]))

    def test_what_is_noted(self):
        self.start()
        self.open("a", "rw")
        self.assert_noted([(6, MAIN, 3, 0, 9, 0, GREAT)], "write_cells", 0, [9, 0, GREAT])
        self.assert_noted([(6, MAIN, 3, 3, 1)], "write_cells", 0, [1])
        self.ask("move_to", 0, 100)
        self.assert_noted([(6, MAIN, 3, 100, 0)], "write_cells", 0, [0])
        # Cells that are there already are a change all the same.
        self.ask("move_to", 0, 0)
        table = self.store.table
        self.commit()
        self.assert_noted([(6, MAIN, 3, 0, 9)], "write_cells", 0, [9])
        self.assertNotEqual(self.store.table, table)
        before = self.session.handles.open_files()
        self.assertEqual(self.assert_unchanged("write_cells", 0, []), 0)
        self.assertEqual(self.session.handles.open_files(), before)
        self.assert_unchanged("read_cells", 0, 5)
        self.assert_unchanged("move_to", 0, 5)

    def test_modes(self):
        self.start()
        for descriptor, mode in enumerate(("r", "w", "rw", "wa", "rwa")):
            self.open("a", mode)
            for name, given, letter in (
                    ("read_cells", (1,), "r"), ("read_cells", (0,), "r"), ("write_cells", ([1],), "w"),
                    ("write_cells", ([],), "w"), ("write_cells", ([1] * 2048,), "w"), ("resize", (40,), "w"),
                    ("resize", (3,), "w")):
                if letter not in mode:
                    self.refuse(BadHandle, name, descriptor, *given)
        self.assertEqual(self.ask("read_cells", 0, 3), [1] * 3)
        self.assertEqual(self.ask("write_cells", 1, [2] * 3), 3)

    def test_descriptors_that_are_not_in_use(self):
        self.start()
        self.open("a", "rw")
        self.ask("fork_process")
        self.open("a", "rw")
        self.ask("close_file", 0)
        for name, given in (
                ("read_cells", (1,)), ("write_cells", ([1],)), ("write_cells", ([],)), ("resize", (1,)),
                ("move_to", (1,)), ("close_file", ()), ("describe_open", ())):
            for process, descriptor in ((0, 0), (0, 2), (0, 7), (1, 1), (1, 7)):
                self.refuse(BadHandle, name, descriptor, *given, process=process)

    def test_too_long(self):
        self.start()
        self.limit(0)
        self.open("a", "rw")
        self.open("a", "wa")
        for position in (1, 2047, 2048):
            self.ask("move_to", 0, position)
            self.refuse(TooLong, "write_cells", 0, [1] * (2049 - position))
            self.assertEqual(self.ask("write_cells", 0, []), 0)
        self.refuse(TooLong, "write_cells", 1, [1] * 2009)
        self.assertEqual(self.ask("write_cells", 1, [0] * 2008), 2008)
        self.refuse(TooLong, "write_cells", 1, [0])
        self.ask("move_to", 0, 0)
        self.assertEqual(self.ask("write_cells", 0, [0] * 2048), 2048)

    def test_limits(self):
        self.start()
        self.limit(3)
        self.open("new", "rwm")
        self.ask("write_cells", 0, [1] * 40)
        self.assertEqual(self.ask("owner_usage", 1), (3, 1))
        self.refuse(OverQuota, "write_cells", 0, [1] * 40)
        self.assertEqual(self.ask("write_cells", 0, [1] * 24), 24)
        self.refuse(OverQuota, "write_cells", 0, [1])
        self.assertEqual(self.ask("write_cells", 0, [0]), 1)
        # The owner of the file is charged, not the one of the process.
        self.open("a", "rwa")
        self.ask("write_cells", 1, [1] * 300)
        self.assertEqual(self.ask("owner_usage", 1), (3, 1))

    def test_resizing(self):
        self.start()
        self.open("a", "rw")
        self.ask("move_to", 0, 35)
        self.assert_noted([(7, MAIN, 3, 33)], "resize", 0, 33)
        self.assert_noted([(7, MAIN, 3, 2048)], "resize", 0, 2048)
        self.assertEqual((self.ask("describe", "a")[4:], self.cells("a")), ((2048, 0, 3), [1] * 33 + [0] * 2015))
        self.assert_noted([(7, MAIN, 3, 32)], "resize", 0, 32)
        self.assertEqual(self.ask("describe", "a")[4:], (32, 0, 2))
        self.assertEqual(self.session.handles.open_files()[0][4], 35)
        before = self.session.handles.open_files()
        self.assertIs(self.assert_unchanged("resize", 0, 32), None)
        self.assertEqual(self.session.handles.open_files(), before)
        self.assert_noted([(7, MAIN, 3, 0)], "resize", 0, 0)
        self.assertEqual((self.cells("a"), self.ask("owner_usage", 0)), ([], (7, 6)))

    def test_no_space(self):
        for name, given, reserve in (("write_cells", (0, [1]), 60), ("write_cells", (0, [5] * 300), 60),
                                     ("resize", (0, 3), 20), ("resize", (0, 2000), 20)):
            self.start()
            self.open("a", "rw")
            self.assert_needs_room(reserve, name, *given)
            self.assertEqual(len(self.session.changes), 1)

    def test_against_a_list(self):
        chance = random.Random(11)
        for _ in range(6):
            self.start()
            descriptors = [self.open("a", mode) for mode in ("rw", "rwa", "r", "w")]
            cells, positions = [1] * 40, [0] * 4
            for _ in range(60):
                at, kind = chance.choice(descriptors), chance.randrange(4)
                if kind == 0 and at != 3:
                    many = chance.choice([0, 1, 31, 32, 33, 2048])
                    found = cells[positions[at]:positions[at] + many]
                    self.assertEqual(self.ask("read_cells", at, many), found)
                    positions[at] += len(found)
                elif kind == 1:
                    positions[at] = chance.choice([0, 1, 31, 32, 33, 64, 100, len(cells)])
                    self.ask("move_to", at, positions[at])
                elif kind == 2 and at != 2:
                    new = [chance.choice([0, 0, 1, 9]) for _ in range(chance.choice([0, 1, 32, 33, 65]))]
                    start = len(cells) if at == 1 else positions[at]
                    if start + len(new) > 2048:
                        continue
                    self.assertEqual(self.ask("write_cells", at, new), len(new))
                    if new:
                        cells += [0] * (start - len(cells))
                        cells[start:start + len(new)] = new
                        positions[at] = start + len(new)
                elif kind == 3 and at != 2:
                    length = chance.choice([0, 1, 31, 32, 33, 64, 100, 300])
                    self.ask("resize", at, length)
                    cells = cells[:length] + [0] * (length - len(cells))
                self.assertEqual([row[4] for row in self.session.handles.open_files()], positions)
            self.assertEqual(self.cells("a"), cells)
            self.assert_all()


class ShareTest(CallCase):

    def start_with_files(self):
        self.start()
        self.make_file("x", [3] * 32 + [0] * 32 + [4] * 10)
        self.open("x", "r")
        self.open("a", "rw")
        self.x, self.a = [self.ask("describe", path)[1] for path in ("x", "a")]

    def test_between_two_files(self):
        self.start_with_files()
        before = self.ask("room")[0]
        self.assertIs(
            self.assert_noted([(8, MAIN, self.x, 0, self.a, 1, 3)], "share_units", 0, 0, 1, 1, 3), None)
        self.assertEqual(self.cells("a"), [1] * 32 + [3] * 32 + [0] * 32 + [4] * 10 + [0] * 22)
        self.assertEqual(self.ask("describe", "a")[4:], (128, 0, 4))
        self.assertLess(before - self.ask("room")[0], 8)
        self.assertEqual([row[4] for row in self.session.handles.open_files()], [0, 0])
        # The blocks are shared, and a later write does not change the other file.
        self.ask("move_to", 1, 32)
        self.ask("write_cells", 1, [9])
        self.assertEqual(self.cells("x")[:3], [3, 3, 3])
        self.assert_all()

    def test_within_a_file(self):
        self.start_with_files()
        self.assert_noted([(8, MAIN, self.a, 0, self.a, 1, 2)], "share_units", 1, 0, 1, 1, 2)
        self.assertEqual(self.cells("a"), [1] * 64 + [1] * 8 + [0] * 24)
        self.assert_noted([(8, MAIN, self.a, 0, self.a, 0, 1)], "share_units", 1, 0, 1, 0, 1)
        self.assert_noted([(8, MAIN, self.a, 3, self.a, 0, 2)], "share_units", 1, 3, 1, 0, 2)
        self.assertEqual(self.cells("a"), [0] * 64 + [1] * 8 + [0] * 24)
        self.assertEqual(self.ask("owner_usage", 0)[0], self.charge())

    def charge(self):
        """The charge of all files of both writable volumes, which all belong to owner 0."""
        paths = ["/", "d", "a", "d/b", "x", "@v", "@v/a"]
        return sum(self.ask("describe", path)[6] for path in paths)

    def test_the_order_of_the_exceptions(self):
        self.start_with_files()
        self.open("@v/a", "rw")
        self.open("x", "w")
        self.open("@v/a", "r")
        for source, target, error in (
                (3, 1, BadHandle), (0, 0, BadHandle), (0, 4, BadHandle), (5, 1, BadHandle), (0, 5, BadHandle),
                (3, 2, BadHandle), (2, 4, BadHandle), (0, 2, CrossVolume), (2, 1, CrossVolume), (2, 3, CrossVolume),
                (4, 1, CrossVolume)):
            self.refuse(error, "share_units", source, 0, target, 0, 1)

    def test_limits(self):
        self.start_with_files()
        self.ask("put_owner", 1, 0, 4, None)
        self.ask("give_path", "a", 1)
        self.refuse(OverQuota, "share_units", 0, 0, 1, 2, 3)
        self.assertIs(self.ask("share_units", 0, 0, 1, 2, 2), None)
        self.assertEqual(self.ask("owner_usage", 1), (4, 1))
        self.refuse(OverQuota, "share_units", 0, 2, 1, 3, 1)
        self.ask("share_units", 0, 1, 1, 0, 2)
        self.assertEqual(self.ask("owner_usage", 1), (3, 1))
        self.ask("put_owner", 1, 0, 4, 1)
        self.ask("share_units", 0, 0, 1, 9, 1)
        self.ask("resize", 1, 288)
        self.ask("put_owner", 1, 0, 0, 0)
        self.ask("share_units", 0, 2, 1, 1, 1)
        self.refuse(OverQuota, "share_units", 0, 2, 1, 9, 1)

    def test_no_space(self):
        self.start_with_files()
        self.assert_needs_room(60, "share_units", 0, 0, 1, 0, 3)

    def test_files_without_a_name_and_the_last_unit(self):
        self.start_with_files()
        self.ask("unlink_file", "x")
        self.ask("unlink_file", "a")
        self.ask("share_units", 0, 0, 1, 61, 3)
        self.assertEqual(self.ask("describe_open", 1), ("main", self.a, 1, 0, 2048, 0, 5))
        self.assert_all()


class CloseTest(CallCase):

    def test_closing(self):
        self.start()
        self.open("a", "rw")
        self.open("d/b", "r")
        self.assertIs(self.assert_unchanged("close_file", 0), None)
        self.assertEqual([row[0] for row in self.session.handles.open_files()], [1])
        self.refuse(BadHandle, "close_file", 0)
        self.assertEqual(self.open("a", "r"), 0)
        self.assertEqual(self.store.reserve, 20)

    def test_the_reserve(self):
        self.start()
        self.open("a", "r")
        self.store.use_reserve(7)
        self.ask("close_file", 0)
        self.assertEqual(self.store.reserve, 20)

    def test_files_without_a_name(self):
        self.start()
        self.commit()
        before, usage = self.data_blocks(), self.ask("owner_usage", 0)
        self.open("new", "rwm")
        self.open("new", "r")
        self.ask("write_cells", 0, [5] * 100)
        inode = self.ask("describe", "new")[1]
        self.assert_noted([(3, MAIN, 1, name_word("new"))], "unlink_file", "new")
        self.assertEqual(find_orphans(self.store, "main"), [inode])
        self.assertEqual(self.ask("read_cells", 1, 3), [5, 5, 5])
        self.ask("write_cells", 0, [6])
        self.assert_noted([], "close_file", 0)
        self.assertEqual(self.ask("describe_open", 1), ("main", inode, 1, 0, 101, 0, 5))
        self.assert_noted([(10, MAIN, inode)], "close_file", 1)
        self.assertEqual((find_orphans(self.store, "main"), self.ask("owner_usage", 0)), ([], usage))
        self.commit()
        self.assertEqual(self.data_blocks(), before)
        used = [number for number in range(256) if self.store.space.uses(number)]
        self.assertEqual(self.ask("room"), (256 - len(used), 0, 256))

    def data_blocks(self):
        """The blocks of data that the disk reaches."""
        return [row[:2] for row in reached(self.system.image()) if not row[2]]

    def test_without_enough_room(self):
        self.start()
        self.open("a", "r")
        self.ask("unlink_file", "a")
        self.commit()
        usage, saved = self.ask("owner_usage", 0), self.store.saved()
        for left in (0, 20, 21):
            fill(self.store, left)
            state, changes = self.store.saved(), self.session.changes
            session = copy_of(self.system)
            self.assertIs(session.ask("close_file", 0, 0), None)
            self.assertEqual(session.session.changes, changes)
            self.assertEqual(session.session.store.saved(), state)
            self.assertEqual(session.ask("owner_usage", 0, 0), usage)
            self.assertEqual(session.session.handles.open_files(), [])
            session.ask("sync_all", 0)
            session.cut([])
            session.mount()
            self.assertEqual(find_orphans(session.session.store, "main"), [])
            self.store.restore(saved)

    def test_the_same_inode_in_two_volumes(self):
        self.start()
        self.ask("create_clone", "s", "c")
        for volume in ("main", "c"):
            self.open(f"@{volume}/a", "r")
            self.ask("unlink_file", f"@{volume}/a")
        self.assert_noted([(10, MAIN, 3)], "close_file", 0)
        self.assertEqual((find_orphans(self.store, "main"), find_orphans(self.store, "c")), ([], [3]))
        self.assert_noted([(10, name_word("c"), 3)], "close_file", 1)
        self.assertEqual(self.ask("describe", "@s/a")[3], 1)

    def test_a_snapshot_with_an_orphan(self):
        self.start()
        self.open("a", "rw")
        self.ask("unlink_file", "a")
        self.ask("create_snapshot", "main", "t")
        state = self.system.state()
        self.assertEqual([row[0] for row in state[0][2][3]], [1, 2, 4])
        self.ask("close_file", 0)
        self.assertEqual(find_orphans(self.store, "t"), [3])
        self.assertEqual(self.system.state(), state)


class DescribeTest(CallCase):

    def test_files_and_directories(self):
        self.start()
        self.ask("link_file", "a", "d/a")
        for path, expected in (
                ("", ("main", 1, 2, 1, 2, 0, 1)), ("/d", ("main", 2, 2, 1, 2, 0, 1)),
                ("a", ("main", 3, 1, 2, 40, 0, 3)),
                ("@main/d/a", ("main", 3, 1, 2, 40, 0, 3)), ("d/b", ("main", 4, 1, 1, 0, 0, 1)),
                ("@s/a", ("s", 3, 1, 1, 40, 0, 3)), ("@v", ("v", 1, 2, 1, 1, 0, 1)), ("@s", ("s", 1, 2, 1, 2, 0, 1))):
            self.assertEqual(self.assert_unchanged("describe", path), expected)
        self.open("d/a", "r")
        self.assertEqual(self.assert_unchanged("describe_open", 0), ("main", 3, 1, 2, 40, 0, 3))
        self.open("@s/a", "r")
        self.assertEqual(self.ask("describe_open", 1), ("s", 3, 1, 1, 40, 0, 3))

    def test_lists(self):
        self.start()
        for name in ("z", "b", "0", ".x", "_", "-", "aa", "a-"):
            self.make_file(name)
        names = [name for name, _, _ in self.assert_unchanged("list_directory", "/")]
        self.assertEqual(names, ["a", "aa", "a-", "b", "d", "z", "0", ".x", "_", "-"])
        self.assertEqual(self.ask("list_directory", "@s"), [("a", 3, 1), ("d", 2, 2)])
        self.assertEqual(self.ask("list_directory", "d"), [("b", 4, 1)])
        self.assertEqual(self.ask("list_directory", "@v"), [("a", 2, 1)])

    def test_exceptions(self):
        self.start()
        for name in ("describe", "list_directory"):
            for path, error in (
                    ("//", BadName), ("@", BadName), ("@no/", BadName), ("A", BadName), ("@no", NoVolume),
                    ("@no/a", NoVolume), ("x", Missing), ("x/y", Missing), ("a/x", WrongKind), ("d/b/x", WrongKind),
                    ("d/x", Missing)):
                self.refuse(error, name, path)
        for path in ("a", "d/b", "@s/a"):
            self.refuse(WrongKind, "list_directory", path)


class PathTest(CallCase):

    def test_where_paths_start(self):
        self.start()
        self.ask("make_directory", "d/e")
        self.make_file("d/e/x", [7])
        self.ask("enter_directory", "d")
        self.ask("fork_process")
        self.ask("enter_directory", "@s/d", process=1)
        for process, path, expected in (
                (0, "", ("main", 2)), (0, "b", ("main", 4)), (0, "e/x", ("main", 6)), (0, "/", ("main", 1)),
                (0, "/a", ("main", 3)), (0, "@v", ("v", 1)), (0, "@v/a", ("v", 2)), (0, "@s/d/b", ("s", 4)),
                (1, "", ("s", 2)), (1, "b", ("s", 4)), (1, "/", ("s", 1)), (1, "/a", ("s", 3)),
                (1, "@main/d/e", ("main", 5))):
            self.assertEqual(self.ask("describe", path, process=process)[:2], expected)
        self.refuse(Missing, "describe", "a")
        self.refuse(Missing, "describe", "e", process=1)
        self.refuse(Missing, "describe", "/b")

    def test_places(self):
        self.start()
        self.ask("enter_directory", "d")
        for path, expected in (("x", "/d/x"), ("/y", "/y"), ("@v/z", "@v/z"), ("@main/d/w", "w")):
            self.ask("make_directory", path)
            self.assertEqual(self.ask("describe", path), self.ask("describe", expected))
        self.assertEqual(self.ask("list_directory", ""), [("b", 4, 1), ("w", 7, 2), ("x", 5, 2)])

    def test_eight_names(self):
        self.start()
        path = ""
        for at in range(8):
            path += f"/{at}"
            self.ask("make_directory", path)
        self.assertEqual(self.ask("describe", path)[2], 2)
        self.refuse(BadName, "describe", path + "/x")
        self.refuse(BadName, "make_directory", path + "/x")
        self.ask("enter_directory", path)
        self.ask("open_file", "x", "wm")
        self.refuse(TooMany, "make_directory", "y", full=NoSpace)


class CommitTest(CallCase):

    CALLS = {
        "open_file": ("x", "wm"), "close_file": (0,), "write_cells": (1, [1]), "share_units": (1, 0, 1, 1, 1),
        "resize": (1, 3), "make_directory": ("y",), "remove_directory": ("e",), "link_file": ("a", "z"),
        "unlink_file": ("d/b",), "rename_path": ("a", "z"), "give_path": ("a", 1), "create_volume": ("n",),
        "create_snapshot": ("main", "n"), "create_clone": ("s", "n"), "restore_volume": ("v", "t"),
        "delete_volume": ("w",), "put_owner": (2, 0, None, None), "delete_owner": (1,), "end_process": ()}
    RESERVES = {
        "close_file": 20, "resize": 20, "remove_directory": 20, "unlink_file": 20, "end_process": 20,
        "delete_volume": 0, "delete_owner": 0}
    OTHERS = {
        "open_file": ("a", "rw"), "read_cells": (1, 5), "move_to": (1, 5), "describe": ("a",), "describe_open": (1,),
        "list_directory": ("",), "duplicate_file": (1,), "fork_process": (), "enter_directory": ("d",),
        "current_path": (), "become": (1,), "show_volumes": (), "show_owners": (), "owner_usage": (1,), "room": ()}

    def start_with(self, free, pending):
        """Begin with so many free blocks, and with a pending block or none; something is noted in both cases."""
        self.start()
        self.ask("make_directory", "e")
        self.ask("create_snapshot", "v", "t")
        self.ask("create_volume", "w")
        self.ask("put_owner", 1, 0, None, None)
        self.open("a", "rw")
        self.open("a", "rw")
        self.commit()
        if pending:
            self.ask("move_to", 1, 39)
            self.ask("write_cells", 1, [1])
        else:
            self.session.note((10, MAIN, 99))
        fill(self.store, free)
        self.assertEqual((self.store.free(), self.store.space.pending() > 0), (free, pending))
        self.store.use_reserve(7)

    def test_which_calls_make_a_commit(self):
        for free, pending in ((99, True), (100, True), (99, False)):
            for name, given in self.CALLS.items():
                self.start_with(free, pending)
                generation, changes = self.store.head.generation, self.session.changes
                self.ask(name, *given)
                reserve = self.RESERVES.get(name, 60)
                self.assertEqual(self.store.reserve, reserve, name)
                made = self.store.head.generation - generation
                own = 2 if name == "delete_volume" or name == "restore_volume" else 1 if name in (
                    "create_volume", "create_snapshot", "create_clone", "put_owner", "delete_owner") else 0
                self.assertEqual(made, own + (free < 100 and pending), (name, free, pending))
                if made == 0:
                    self.assertEqual(self.session.changes[:1], changes, name)

    def test_refused_calls_make_it_too(self):
        for name, given in (
                ("open_file", ("", "wm")), ("close_file", (5,)), ("write_cells", (5, [])), ("resize", (5, 0)),
                ("share_units", (5, 0, 5, 0, 1)), ("make_directory", ("//",)), ("remove_directory", ("//",)),
                ("link_file", ("//", "")), ("unlink_file", ("//",)), ("rename_path", ("//", "")),
                ("give_path", ("//", 0)),
                ("create_volume", ("",)), ("create_snapshot", ("", "")), ("create_clone", ("", "")),
                ("restore_volume", ("", "")), ("delete_volume", ("",)), ("put_owner", (2, 3, None, None)),
                ("delete_owner", (2,))):
            self.start_with(99, True)
            generation = self.store.head.generation
            state = self.system.state()
            with self.assertRaises((BadName, BadHandle, NoVolume, Missing)):
                self.ask(name, *given)
            self.assertEqual((self.store.head.generation, self.system.state()), (generation + 1, state), name)
            self.assertEqual(self.store.reserve, self.RESERVES.get(name, 60), name)

    def test_no_commit_before_not_valid_and_no_process(self):
        self.start_with(99, True)
        for name, given in self.CALLS.items():
            self.refuse_as_it_is(NoProcess, name, *given, process=9)
        for name, given in (
                ("open_file", ("x", "q")), ("close_file", (8,)), ("write_cells", (1, [-1])), ("resize", (1, 2049)),
                ("share_units", (1, 0, 1, 1, 64)), ("give_path", ("a", 256)), ("put_owner", (0, 0, None, None)),
                ("delete_owner", (0,))):
            self.refuse_as_it_is(NotValid, name, *given)
        self.assertEqual(self.store.reserve, 7)

    def test_calls_that_do_not_change_the_store(self):
        for name, given in self.OTHERS.items():
            self.start_with(99, True)
            self.assert_unchanged(name, *given)
            self.assertEqual(self.store.reserve, 7, name)


if __name__ == "__main__":
    unittest.main()
