"""Open files: points [82] to [87], and [45] and [72] for files without a name."""

import random
import unittest

from helpers import (
    VolumeCase, changed_by_hand, erase_by_hand, fill, resize_by_hand, root_of, state_of, usages, without_orphans,
    write_by_hand, written)
from laminae.commits import commit
from laminae.data import list_units, read_range, set_length, share_range
from laminae.errors import (
    BadHandle, Busy, Missing, NoSpace, NotValid, NoVolume, OverQuota, PowerOff, ReadOnly, TooLong)
from laminae.handles import (
    Handles, close_open_file, find_orphans, read_open_file, recover_orphan, remove_if_room, remove_orphan,
    resize_open_file, write_open_file)
from laminae.inodes import DIRECTORY, add_inode, read_record
from laminae.owners import Accounts
from laminae.volumes import clone_snapshot, find_volume, make_volume, prepare_root, set_root, take_snapshot

MODES = ("r", "w", "rw", "wa", "rwa")


class HandleTest(unittest.TestCase):

    def test_nothing_is_open_at_first(self):
        handles = Handles()
        self.assertEqual(handles.open_files(), [])
        self.assertIs(handles.is_open("main", 1), False)
        self.assertIs(handles.uses_volume("main"), False)

    def test_the_least_number_that_is_not_in_use(self):
        handles = Handles()
        self.assertEqual([handles.add_open_file("main", inode, "r") for inode in range(5)], [0, 1, 2, 3, 4])
        for number in (3, 1):
            handles.drop_reference(number)
        self.assertEqual([handles.add_open_file("b", inode, "rw") for inode in (7, 8, 9)], [1, 3, 5])
        self.assertEqual(handles.open_files(), [
            (0, "main", 0, "r", 0, 1), (1, "b", 7, "rw", 0, 1), (2, "main", 2, "r", 0, 1), (3, "b", 8, "rw", 0, 1),
            (4, "main", 4, "r", 0, 1), (5, "b", 9, "rw", 0, 1)])

    def test_32_open_files(self):
        handles = Handles()
        self.assertEqual([handles.add_open_file("main", 2, "w") for _ in range(32)], list(range(32)))
        self.assertEqual(len(handles.open_files()), 32)

    def test_what_a_new_open_file_has(self):
        handles = Handles()
        for mode in MODES:
            number = handles.add_open_file("main", 10 ** 12, mode)
            self.assertEqual(handles.look_up(number), ("main", 10 ** 12, mode, 0))
            self.assertIsInstance(handles.look_up(number), tuple)
        handles.open_files().append(1)
        self.assertEqual(len(handles.open_files()), 5)

    def test_references(self):
        handles = Handles()
        number = handles.add_open_file("main", 2, "r")
        for many in (2, 3, 4):
            self.assertIs(handles.add_reference(number), None)
            self.assertEqual(handles.open_files(), [(0, "main", 2, "r", 0, many)])
        for many in (3, 2, 1):
            self.assertIs(handles.drop_reference(number), None)
            self.assertEqual(handles.open_files(), [(0, "main", 2, "r", 0, many)])
        self.assertEqual(handles.drop_reference(number), ("main", 2))
        self.assertEqual(handles.open_files(), [])

    def test_a_file_that_is_open_several_times(self):
        handles = Handles()
        for given in (("main", 2, "r"), ("main", 2, "w"), ("main", 3, "r"), ("b", 2, "r")):
            handles.add_open_file(*given)
        self.assertIs(handles.drop_reference(0), None)
        self.assertEqual(
            [handles.is_open(*given) for given in (("main", 2), ("main", 3), ("b", 2), ("b", 3), ("x", 2))],
            [True, True, True, False, False])
        self.assertEqual(handles.drop_reference(1), ("main", 2))
        self.assertEqual([handles.uses_volume(volume) for volume in ("main", "b", "x")], [True, True, False])
        self.assertEqual(handles.drop_reference(3), ("b", 2))
        self.assertEqual([handles.uses_volume(volume) for volume in ("main", "b")], [True, False])
        self.assertIs(handles.is_open("main", 2), False)
        self.assertEqual(handles.drop_reference(2), ("main", 3))
        self.assertIs(handles.uses_volume("main"), False)

    def test_positions(self):
        handles = Handles()
        handles.add_open_file("main", 2, "rw")
        handles.add_reference(0)
        for position in (2048, 0, 1, 2047):
            self.assertIs(handles.move_to(0, position), None)
            self.assertEqual(handles.open_files(), [(0, "main", 2, "rw", position, 2)])
        for position in (2049, -1, 10 ** 30, -10 ** 30):
            with self.assertRaises(NotValid):
                handles.move_to(0, position)
        self.assertEqual(handles.look_up(0), ("main", 2, "rw", 2047))
        handles.add_reference(0)
        self.assertIs(handles.drop_reference(0), None)
        self.assertEqual(handles.open_files(), [(0, "main", 2, "rw", 2047, 2)])

    def test_numbers_that_are_not_open(self):
        handles = Handles()
        for number in (0, 1, 2):
            handles.add_open_file("main", number, "r")
        handles.drop_reference(1)
        before = handles.open_files()
        for number in (1, 3, -1, 10 ** 20):
            for method in (handles.look_up, handles.add_reference, handles.drop_reference):
                with self.assertRaises(BadHandle):
                    method(number)
            for position in (0, 2048, 2049, -1):
                with self.assertRaises(BadHandle):
                    handles.move_to(number, position)
        self.assertEqual(handles.open_files(), before)


class OpenFileCase(VolumeCase):

    def start(self, cells=(), owner=3, mode="rw", limits=None):
        """Begin with a file of main that is open with number 0."""
        VolumeCase.start(self)
        self.inode = self.add_file("main", "file", cells, owner=owner)
        self.settle()
        self.open(self.inode, mode)
        if limits is not None:
            self.accounts.put_owner(self.store, owner, 0, *limits)
            commit(self.store)

    def settle(self):
        """Commit, and begin without open files."""
        commit(self.store)
        self.accounts, self.handles = Accounts(self.store), Handles()

    def open(self, inode, mode="rw", volume="main", position=0):
        """Open a file, and return its number."""
        number = self.handles.add_open_file(volume, inode, mode)
        self.handles.move_to(number, position)
        return number

    def cells(self, volume="main", inode=None):
        """All cells of a file."""
        return read_range(self.store, root_of(self.store, volume), inode or self.inode, 0, 2048)

    def refuse(self, error, function, *given, reserves=(300, 0)):
        """Check that a call is refused, and leaves the store, the accounts and the open files as they were."""
        before = self.handles.open_files()
        for reserve in reserves:
            self.store.use_reserve(reserve)
            self.assert_refused_with(self.accounts, error, function, *given)
            self.assertEqual(self.handles.open_files(), before)

    def read(self, number, count):
        return read_open_file(self.store, self.handles, number, count)

    def write(self, number, cells):
        return write_open_file(self.store, self.accounts, self.handles, number, cells)

    def resize(self, number, length):
        return resize_open_file(self.store, self.accounts, self.handles, number, length)

    def position(self, number=0):
        return self.handles.look_up(number)[3]

    def assert_all(self):
        """Check the uses and the accounts."""
        self.assert_uses()
        self.assert_counted(self.accounts)


class ReadTest(OpenFileCase):

    def test_reading_moves_the_position(self):
        cells = list(range(1, 101))
        self.start(cells)
        for count, expected, position in (
                (0, [], 0), (1, [1], 1), (40, cells[1:41], 41), (58, cells[41:99], 99), (2048, [100], 100),
                (2048, [], 100), (0, [], 100)):
            before = state_of(self.store)
            self.assertEqual(self.read(0, count), expected)
            self.assertEqual((self.position(), state_of(self.store)), (position, before))
        self.handles.move_to(0, 60)
        self.assertEqual(self.read(0, 2048), cells[60:])

    def test_at_the_end_and_behind_it(self):
        self.start([1] * 100)
        for position in (100, 101, 128, 2047, 2048):
            self.handles.move_to(0, position)
            for count in (0, 1, 2048):
                self.assertEqual(self.read(0, count), [])
                self.assertEqual(self.position(), position)
        self.start([])
        self.assertEqual((self.read(0, 5), self.position()), ([], 0))

    def test_2048_cells(self):
        self.start(list(range(2048)))
        self.assertEqual(self.read(0, 2048), list(range(2048)))
        self.assertEqual((self.position(), self.read(0, 1)), (2048, []))

    def test_modes(self):
        for mode in MODES:
            self.start([1, 2], mode=mode)
            if "r" in mode:
                self.assertEqual(self.read(0, 5), [1, 2])
            else:
                for count in (0, 5):
                    self.refuse(BadHandle, lambda store, count: self.read(0, count), count)

    def test_numbers_that_are_not_open(self):
        self.start([1])
        for number in (1, -1, 32):
            self.refuse(BadHandle, lambda store: self.read(number, 1))

    def test_snapshots(self):
        self.start([1, 2, 3])
        take_snapshot(self.store, "main", "s")
        number = self.open(self.inode, "r", "s")
        self.write(0, [9])
        self.assertEqual((self.read(number, 9), self.cells()), ([1, 2, 3], [9, 2, 3]))

    def test_positions_are_shared_by_references_and_not_by_open_files(self):
        self.start([1, 2, 3])
        other = self.open(self.inode, "r")
        self.assertEqual((self.read(0, 2), self.read(other, 1), self.read(0, 2)), ([1, 2], [1], [3]))


class WriteTest(OpenFileCase):

    def test_the_example_of_the_interface(self):
        self.start([7, 8])
        self.handles.move_to(0, 3)
        self.assertEqual((self.read(0, 5), self.position()), ([], 3))
        self.assertEqual(self.write(0, [9]), 1)
        self.assertEqual((self.cells(), self.position()), ([7, 8, 0, 9], 4))

    def test_positions_and_the_end(self):
        for mode in ("w", "rw", "wa", "rwa"):
            for position in (0, 1, 31, 50, 99, 100, 101, 200, 2000):
                self.start([5] * 100, mode=mode)
                self.handles.move_to(0, position)
                start = 100 if "a" in mode else position
                given = [1, 2, 3]
                self.assertEqual(self.write(0, given), 3)
                self.assertEqual(given, [1, 2, 3])
                self.assertEqual((self.cells(), self.position()), (written([5] * 100, start, [1, 2, 3]), start + 3))
                self.assert_all()

    def test_writes_in_succession(self):
        self.start()
        other = self.open(self.inode, "wa")
        for given, cells in ((0, [1, 2]), (other, [3]), (0, [4]), (other, [5]), (0, [6])):
            self.write(given, cells)
        self.assertEqual((self.cells(), self.position(0), self.position(other)), ([1, 2, 4, 6], 4, 4))

    def test_no_cells(self):
        for mode in ("rw", "wa"):
            self.start([1] * 40, mode=mode, limits=(0, 0))
            self.store.use_reserve(300)
            for position in (0, 7, 40, 41, 2048):
                self.handles.move_to(0, position)
                before = state_of(self.store), usages(self.accounts), self.handles.open_files()
                self.assertEqual(self.write(0, []), 0)
                self.assertEqual((state_of(self.store), usages(self.accounts), self.handles.open_files()), before)

    def test_cells_up_to_2048(self):
        for mode, position in (("rw", 0), ("wa", 5)):
            self.start(mode=mode)
            self.handles.move_to(0, position)
            self.assertEqual(self.write(0, [1] * 2048), 2048)
            self.assertEqual((self.position(), len(self.cells())), (2048, 2048))
            if mode == "wa":
                self.refuse(TooLong, lambda store: self.write(0, [1]))

    def test_what_is_charged(self):
        self.start([1] * 10)
        self.assertEqual(self.accounts.usage(3), (2, 1))
        for position, cells, charge in (
                (0, [2] * 10, 2), (32, [1], 3), (100, [1] * 100, 7), (32, [0], 6), (0, [0] * 10, 5), (1000, [0], 5),
                (999, [1, 1], 6), (96, [0] * 104, 2), (32, [0] * 5, 2)):
            self.handles.move_to(0, position)
            self.write(0, cells)
            self.assertEqual(self.accounts.usage(3), (charge, 1))
            self.assert_all()

    def test_limits(self):
        for limit, cells, is_refused in (
                (4, [1] * 96, False), (4, [1] * 97, True), (3, [1] * 96, True), (3, [1] * 64, False),
                (0, [1] * 32, False), (0, [0] * 2048, False), (0, [1] * 33, True), (0, [0] * 10 + [1] * 10, False)):
            self.start([1] * 10, limits=(limit, None))
            if is_refused:
                self.refuse(OverQuota, lambda store: self.write(0, cells))
            else:
                self.assertEqual(self.write(0, cells), len(cells))
            self.assert_all()

    def test_a_write_that_lowers_the_charge_is_not_refused(self):
        self.start([1] * 200, limits=(0, 0))
        self.assertEqual(self.write(0, [0] * 64), 64)
        self.assertEqual(self.accounts.usage(3), (6, 1))
        self.handles.move_to(0, 0)
        self.refuse(OverQuota, lambda store: self.write(0, [1]))

    def test_limits_of_those_above(self):
        self.start([1] * 10)
        self.accounts.put_owner(self.store, 8, 0, 2, None)
        self.accounts.put_owner(self.store, 3, 8, None, None)
        self.handles.move_to(0, 32)
        self.refuse(OverQuota, lambda store: self.write(0, [1]))
        self.accounts.put_owner(self.store, 8, 0, 3, None)
        self.assertEqual(self.write(0, [1]), 1)

    def test_the_order_of_the_exceptions(self):
        self.start([1] * 10, limits=(0, None))
        for mode, error in (("r", BadHandle), ("rw", TooLong)):
            number = self.open(self.inode, mode, position=2000)
            self.refuse(error, lambda store: self.write(number, [1] * 49))
            self.refuse(error, lambda store: self.write(number, [0] * 49))
            self.refuse(BadHandle if mode == "r" else OverQuota, lambda store: self.write(number, [1] * 48))
        for number in (7, -1):
            for cells in ([], [1], [1] * 2049):
                self.refuse(BadHandle, lambda store: self.write(number, cells))
        self.refuse(BadHandle, lambda store: self.write(1, []))
        self.store.use_reserve(300)
        self.refuse_for_room(lambda: self.write(0, [7]))

    def refuse_for_room(self, call):
        """Check that a call raises NoSpace, and leaves the accounts and the open files as they were."""
        saved, before = self.store.saved(), (usages(self.accounts), self.handles.open_files())
        with self.assertRaises(NoSpace):
            call()
        self.store.restore(saved)
        self.assertEqual((usages(self.accounts), self.handles.open_files()), before)

    def test_no_space(self):
        self.start([1] * 40)
        commit(self.store)
        for many in range(12):
            for call in (lambda: self.write(0, [5] * 96), lambda: self.resize(0, 10)):
                for kept in (60, 20, 0):
                    saved = self.store.saved()
                    fill(self.store, kept + many)
                    self.store.use_reserve(kept)
                    if many < 3:
                        self.refuse_for_room(call)
                    self.store.restore(saved)
        for kept in (60, 20, 0):
            self.store.use_reserve(kept)
            needs = self.assert_needs_room(self.store, lambda store: self.attempt([5] * 96), reserves=(kept,))
            self.assertGreater(needs, 4)

    def attempt(self, cells):
        """Write with accounts and open files of its own."""
        accounts, handles = Accounts(self.store), Handles()
        number = handles.add_open_file("main", self.inode, "rw")
        before = usages(accounts), handles.open_files()
        try:
            write_open_file(self.store, accounts, handles, number, cells)
        except NoSpace:
            self.assertEqual((usages(accounts), handles.open_files()), before)
            raise

    def test_the_root_is_prepared_first(self):
        self.start([1] * 100)
        for position, cells in ((0, [9] * 70), (40, [9]), (0, [0] * 32), (500, [1]), (500, [1])):
            self.handles.move_to(0, position)
            commit(self.store)

            def by_hand(store):
                changed_by_hand(store, "main", write_by_hand, self.inode, position, cells)
                return len(cells)

            self.assert_same_change(self.store, lambda store: self.write(0, cells), by_hand)
            self.assert_all()

    def test_against_a_list(self):
        for seed in range(4):
            chosen = random.Random(seed)
            self.start(mode="rwa" if seed % 2 else "rw")
            expected, position = [], 0
            for at in range(60):
                action = chosen.randrange(4)
                if action == 0:
                    position = chosen.randrange(300)
                    self.handles.move_to(0, position)
                elif action == 1:
                    count = chosen.randrange(100)
                    self.assertEqual(self.read(0, count), expected[position:position + count])
                    position += len(expected[position:position + count])
                elif action == 2:
                    cells = [chosen.randrange(2) * at] * chosen.randrange(80)
                    start = len(expected) if seed % 2 else position
                    if start + len(cells) > 2048:
                        continue
                    self.assertEqual(self.write(0, cells), len(cells))
                    expected = written(expected, start, cells)
                    position = start + len(cells) if cells else position
                else:
                    length = chosen.randrange(300)
                    self.assertIs(self.resize(0, length), None)
                    expected = expected[:length] + [0] * (length - len(expected))
                self.assertEqual((self.cells(), self.position()), (expected, position))
                self.assert_all()
                if at % 9 == 0:
                    commit(self.store)


class ResizeTest(OpenFileCase):

    def test_lengths_and_the_position(self):
        for length in (0, 1, 31, 32, 33, 99, 101, 2048):
            self.start([5] * 100)
            self.handles.move_to(0, 70)
            self.assertIs(self.resize(0, length), None)
            self.assertEqual((self.cells(), self.position()), (([5] * 100)[:length] + [0] * (length - 100), 70))
            self.assert_all()

    def test_the_same_length_changes_nothing(self):
        for length in (0, 100, 2048):
            self.start([5] * length, limits=(0, 0))
            self.store.use_reserve(300)
            before = state_of(self.store), usages(self.accounts), self.handles.open_files()
            self.assertIs(self.resize(0, length), None)
            self.assertEqual((state_of(self.store), usages(self.accounts), self.handles.open_files()), before)

    def test_what_is_charged(self):
        self.start([1] * 100, limits=(0, 0))
        for length, charge in ((2048, 5), (97, 5), (96, 4), (33, 3), (32, 2), (1, 2), (0, 1), (2000, 1)):
            self.resize(0, length)
            self.assertEqual(self.accounts.usage(3), (charge, 1))
            self.assert_all()

    def test_modes_and_numbers(self):
        for mode in MODES:
            self.start([1, 2], mode=mode)
            for length in (0, 2, 5):
                if "w" in mode:
                    self.resize(0, length)
                else:
                    self.refuse(BadHandle, lambda store: self.resize(0, length))
            for number in (1, -1):
                self.refuse(BadHandle, lambda store: self.resize(number, 2))

    def test_the_root_is_prepared_first(self):
        self.start([1] * 100)
        for length in (200, 70, 64, 0):
            commit(self.store)
            self.assert_same_change(
                self.store, lambda store: self.resize(0, length),
                lambda store: changed_by_hand(store, "main", resize_by_hand, self.inode, length))
            self.assert_all()

    def test_no_space(self):
        self.start([1] * 100)
        for reserve in (60, 20, 0):
            commit(self.store)
            saved = self.store.saved()
            fill(self.store, reserve)
            self.store.use_reserve(reserve)
            filled = state_of(self.store)
            before = usages(self.accounts), self.handles.open_files()
            again = self.store.saved()
            with self.assertRaises(NoSpace):
                self.resize(0, 50)
            self.store.restore(again)
            self.assertEqual(state_of(self.store), filled)
            self.assertEqual((usages(self.accounts), self.handles.open_files()), before)
            self.store.restore(saved)


class OrphanTest(OpenFileCase):

    def start_with_orphans(self):
        """Begin with two volumes; main has the orphans 2 and 4 and the file 3, b has the file 2 and the orphan 3."""
        VolumeCase.start(self)
        make_volume(self.store, None, "b")
        self.add_file("main", None, [1] * 70, owner=3)
        self.add_file("main", "a", [1] * 70, owner=3)
        self.add_file("main", None, owner=4)
        self.add_file("b", "a", [1] * 70, owner=4)
        self.add_file("b", None, [1] * 40, owner=4)
        take_snapshot(self.store, "main", "s")
        self.settle()

    def test_finding_orphans(self):
        self.start_with_orphans()
        self.assertEqual([find_orphans(self.store, name) for name in ("main", "b", "s")], [[2, 4], [3], [2, 4]])
        for name in ("x", "", "A"):
            self.refuse(NoVolume, find_orphans, name)
        clone_snapshot(self.store, None, "s", "c")
        self.assertEqual(find_orphans(self.store, "c"), [])

    def test_removing_an_orphan(self):
        self.start_with_orphans()
        before = self.shown("s")
        for volume, inode, owner, left in (("main", 2, 3, (4, 1)), ("b", 3, 4, (5, 2)), ("main", 4, 4, (4, 1))):
            self.assertIs(
                self.assert_same_change(
                    self.store, lambda store: remove_orphan(store, self.accounts, volume, inode),
                    lambda store: changed_by_hand(store, volume, erase_by_hand, inode)), None)
            self.assertEqual(self.accounts.usage(owner), left)
            self.assert_all()
            self.refuse(Missing, remove_orphan, self.accounts, volume, inode)
        self.assertEqual(self.shown("s"), before)
        self.assertEqual(self.shown("main"), without_orphans(before))

    def test_exceptions_of_removing(self):
        self.start_with_orphans()
        root, directory = add_inode(self.store, prepare_root(self.store, "main"), DIRECTORY, 1, 0)
        set_root(self.store, "main", root)
        self.accounts = Accounts(self.store)
        for function in (remove_orphan, remove_if_room):
            for accounts in (self.accounts, None):
                for name in ("x", "", "A"):
                    for inode in (1, 2, 99):
                        self.refuse(NoVolume, function, accounts, name, inode)
                for inode in (1, 2, 3, 4, 99):
                    self.refuse(ReadOnly, function, accounts, "s", inode)
                for inode in (0, 99):
                    self.refuse(Missing, function, accounts, "main", inode)
                for inode in (1, 3, directory):
                    self.refuse(Busy, function, accounts, "main", inode)

    def test_removing_without_accounts(self):
        self.start_with_orphans()
        self.assertIs(remove_orphan(self.store, None, "main", 2), None)
        self.assertIs(remove_if_room(self.store, None, "b", 3), True)
        self.assertEqual((find_orphans(self.store, "main"), find_orphans(self.store, "b")), ([4], []))
        self.assert_uses()

    def test_no_space_for_removing(self):
        self.start_with_orphans()
        self.assertGreater(self.assert_needs_room(self.store, self.counting(remove_orphan, "main", 2)), 2)

    def test_removing_if_there_is_room(self):
        for reserve in (0, 20, 60, 300):
            self.start_with_orphans()
            self.store.use_reserve(reserve)
            self.assertIs(remove_if_room(self.store, self.accounts, "main", 2), True)
            self.assertEqual((self.store.reserve, find_orphans(self.store, "main")), (reserve, [4]))
            self.assertEqual(self.accounts.usage(3), (4, 1))
            self.assert_all()

    def test_removing_without_enough_room(self):
        results = []
        for left in range(20, 34):
            for reserve in (0, 20, 300):
                self.start_with_orphans()
                fill(self.store, left)
                self.store.use_reserve(reserve)
                before = state_of(self.store), usages(self.accounts)
                found = remove_if_room(self.store, self.accounts, "main", 2)
                self.assertEqual(self.store.reserve, reserve)
                self.assertGreaterEqual(self.store.free(), 20)
                if not found:
                    self.assertEqual((state_of(self.store), usages(self.accounts)), before)
                else:
                    self.assertEqual(find_orphans(self.store, "main"), [4])
                    self.assert_counted(self.accounts)
                self.assertIsInstance(found, bool)
                results.append(found)
        self.assertEqual(results, sorted(results))
        self.assertEqual((results[0], results[5], results[-1]), (False, False, True))

    def test_the_reserve_after_an_exception(self):
        self.start_with_orphans()
        self.store.use_reserve(7)
        for given in (("x", 2), ("s", 2), ("main", 99), ("main", 3)):
            with self.assertRaises((NoVolume, ReadOnly, Missing, Busy)):
                remove_if_room(self.store, self.accounts, *given)
            self.assertEqual(self.store.reserve, 7)

    def test_the_order_of_recovery(self):
        self.start_with_orphans()
        before = self.shown("s")
        for reserve, left in zip((0, 20, 300), (([2, 4], []), ([4], []), ([], []))):
            self.store.use_reserve(reserve)
            self.assertIs(recover_orphan(self.store), True)
            self.assertEqual((find_orphans(self.store, "main"), find_orphans(self.store, "b")), left)
            self.assertEqual(self.store.reserve, reserve)
            self.assert_uses()
        before_last = state_of(self.store)
        self.assertIs(recover_orphan(self.store), False)
        self.assertEqual((state_of(self.store), self.shown("s")), (before_last, before))
        self.assertEqual(find_orphans(self.store, "s"), [2, 4])

    def test_recovery_takes_the_same_blocks_as_removing(self):
        self.start_with_orphans()
        for volume, inode in (("b", 3), ("main", 2), ("main", 4)):
            self.assert_same_change(
                self.store, recover_orphan, lambda store: remove_if_room(store, None, volume, inode))

    def test_recovery_passes_over_orphans_without_room(self):
        VolumeCase.start(self)
        self.add_file("main", None, range(1, 1500))
        self.add_file("main", None)
        commit(self.store)
        free = {}
        for left in range(20, 70):
            saved = self.store.saved()
            fill(self.store, left)
            self.store.use_reserve(60)
            filled, found = state_of(self.store), recover_orphan(self.store)
            free[left] = tuple(find_orphans(self.store, "main"))
            self.assertEqual((found, self.store.reserve), (len(free[left]) < 2, 60))
            if not found:
                self.assertEqual(state_of(self.store), filled)
            self.assertGreaterEqual(self.store.free(), 20)
            self.store.restore(saved)
        self.assertEqual((free[20], free[69]), ((2, 3), (3,)))
        self.assertIn((2,), free.values())

    def test_orphans_of_snapshots_are_not_recovered(self):
        VolumeCase.start(self)
        inode = self.add_file("main", None, [1])
        take_snapshot(self.store, "main", "a")
        remove_orphan(self.store, None, "main", inode)
        self.assertIs(recover_orphan(self.store), False)
        self.assertEqual(find_orphans(self.store, "a"), [inode])


class CloseTest(OpenFileCase):

    def close(self, number):
        return close_open_file(self.store, self.accounts, self.handles, number)

    def start_with_an_orphan(self):
        """Begin with an orphan of main, and a file of b with the same inode."""
        VolumeCase.start(self)
        make_volume(self.store, None, "b")
        self.inode = self.add_file("main", None, [1] * 70, owner=3)
        self.other = self.add_file("b", "a", [1] * 70, owner=3)
        self.assertEqual(self.inode, self.other)
        self.settle()

    def test_an_orphan_that_is_open_once(self):
        self.start_with_an_orphan()
        self.open(self.inode)
        self.assertEqual(self.close(0), ("main", self.inode))
        self.assertEqual((self.handles.open_files(), find_orphans(self.store, "main")), ([], []))
        self.assertEqual(self.accounts.usage(3), (4, 1))
        self.assert_all()

    def test_the_blocks_are_those_of_removing(self):
        self.start_with_an_orphan()
        self.open(self.inode)
        self.store.use_reserve(300)

        def by_hand(store):
            self.store.use_reserve(0)
            changed_by_hand(store, "main", erase_by_hand, self.inode)
            self.store.use_reserve(300)
            return "main", self.inode

        self.assert_same_change(self.store, lambda store: self.close(0), by_hand)

    def test_an_orphan_that_is_open_twice(self):
        self.start_with_an_orphan()
        for _ in range(2):
            self.open(self.inode)
        self.handles.add_reference(1)
        before = state_of(self.store), usages(self.accounts)
        for number in (1, 0):
            self.assertIs(self.close(number), None)
            self.assertEqual((state_of(self.store), usages(self.accounts)), before)
        self.assertEqual(self.handles.open_files(), [(1, "main", self.inode, "rw", 0, 1)])
        self.assertEqual(self.close(1), ("main", self.inode))
        self.assert_all()

    def test_the_same_inode_in_two_volumes(self):
        self.start_with_an_orphan()
        self.open(self.inode)
        self.open(self.other, volume="b")
        before = state_of(self.store)
        self.assertIs(self.close(1), None)
        self.assertEqual(state_of(self.store), before)
        self.open(self.other, volume="b")
        self.assertEqual(self.close(0), ("main", self.inode))
        self.assertEqual(self.cells("b"), [1] * 70)
        self.assert_all()

    def test_a_file_with_links_stays(self):
        self.start([1] * 70)
        before = state_of(self.store), usages(self.accounts)
        self.assertIs(self.close(0), None)
        self.assertEqual((state_of(self.store), usages(self.accounts)), before)
        self.assertEqual(self.handles.open_files(), [])

    def test_without_enough_room(self):
        self.start_with_an_orphan()
        self.open(self.inode)
        fill(self.store, 20)
        for reserve in (0, 300):
            self.store.use_reserve(reserve)
            before = state_of(self.store), usages(self.accounts)
            self.assertIs(self.close(0), None)
            self.assertEqual((state_of(self.store), usages(self.accounts)), before)
            self.assertEqual((self.handles.open_files(), self.store.reserve), ([], reserve))
            self.assertEqual(find_orphans(self.store, "main"), [self.inode])
            self.open(self.inode)

    def test_without_power_the_file_stays_open(self):
        self.start_with_an_orphan()
        self.open(self.inode)
        before = self.handles.open_files(), usages(self.accounts)
        self.store.disk.fail_after(0)
        with self.assertRaises(PowerOff):
            self.store.disk.flush()
        with self.assertRaises(PowerOff):
            self.close(0)
        self.assertEqual((self.handles.open_files(), usages(self.accounts)), before)

    def test_an_orphan_of_a_snapshot_stays(self):
        self.start_with_an_orphan()
        take_snapshot(self.store, "main", "s")
        self.open(self.inode, volume="s")
        before = state_of(self.store), usages(self.accounts)
        self.assertIs(self.close(0), None)
        self.assertEqual((state_of(self.store), usages(self.accounts)), before)
        self.assertEqual(self.handles.open_files(), [])

    def test_numbers_that_are_not_open(self):
        self.start_with_an_orphan()
        self.open(self.inode)
        for number in (1, -1, 32):
            self.refuse(BadHandle, lambda store: self.close(number))

    def test_units_that_are_shared_stay(self):
        self.start_with_an_orphan()
        other = self.add_file("main", "x", [], owner=3)
        root = share_range(self.store, prepare_root(self.store, "main"), self.inode, 0, other, 0, 3)
        set_root(self.store, "main", set_length(self.store, root, other, 70))
        self.settle()
        self.open(self.inode)
        self.assertEqual(self.close(0), ("main", self.inode))
        self.assertEqual(self.cells(inode=other), [1] * 70)
        self.assertEqual(read_record(self.store, root_of(self.store, "main"), other), (1, 1, 70, 3))
        self.assertEqual(len(list_units(self.store, find_volume(self.store, "main")[0], other)), 3)
        self.assert_all()


if __name__ == "__main__":
    unittest.main()
