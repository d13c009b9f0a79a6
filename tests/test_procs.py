"""Processes: points [88] to [92], and [84] and [85] for what closing does."""

import random
import unittest

from helpers import VolumeCase, changed_by_hand, erase_by_hand, fill, state_of, usages
from laminae.commits import commit
from laminae.errors import BadHandle, NoProcess, PowerOff, TooMany
from laminae.handles import Handles, find_orphans
from laminae.owners import Accounts
from laminae.procs import Processes, close_descriptor, duplicate, fork, leave
from laminae.volumes import make_volume, take_snapshot

NO_PROCESSES = (-1, 4, 5, 10 ** 20, -10 ** 20)
NO_DESCRIPTORS = (-1, 8, 9, 10 ** 20, -10 ** 20)


class ProcessTest(unittest.TestCase):

    def test_a_new_object(self):
        for volume in ("main", "b"):
            processes = Processes(volume)
            self.assertEqual(processes.list_processes(), [(0, 0, volume, 1, [])])
            self.assertEqual(processes.look_up(0), (0, volume, 1))
            self.assertIs(processes.has_room(0), True)

    def test_owner_and_directory(self):
        processes = Processes("main")
        fork(Handles(), processes, 0)
        self.assertIs(processes.set_owner(1, 255), None)
        self.assertEqual(processes.list_processes(), [(0, 0, "main", 1, []), (1, 255, "main", 1, [])])
        self.assertIs(processes.set_directory(0, "b", 10 ** 12), None)
        self.assertEqual(processes.list_processes(), [(0, 0, "b", 10 ** 12, []), (1, 255, "main", 1, [])])
        self.assertEqual((processes.look_up(0), processes.look_up(1)), ((0, "b", 10 ** 12), (255, "main", 1)))

    def test_what_processes_use(self):
        processes = Processes("main")
        for number, (owner, volume, directory) in enumerate([(3, "b", 7), (0, "main", 2), (4, "b", 1)]):
            self.assertEqual(fork(Handles(), processes, 0), number + 1)
            processes.set_owner(number + 1, owner)
            processes.set_directory(number + 1, volume, directory)
        self.assertEqual(
            [processes.works_in(*given) for given in (
                ("main", 1), ("main", 2), ("b", 1), ("b", 7), ("b", 2), ("main", 7), ("c", 1), ("main", 0))],
            [True, True, True, True, False, False, False, False])
        self.assertEqual(
            [processes.uses_volume(volume) for volume in ("main", "b", "c", "")], [True, True, False, False])
        self.assertEqual([processes.uses_owner(owner) for owner in (0, 1, 3, 4)], [True, False, True, True])
        processes.set_directory(1, "main", 1)
        self.assertEqual((processes.uses_volume("b"), processes.works_in("b", 7)), (True, False))
        leave(None, None, Handles(), processes, 3)
        self.assertEqual((processes.uses_volume("b"), processes.uses_owner(4)), (False, False))

    def test_descriptors(self):
        processes = Processes("main")
        self.assertEqual([processes.add_descriptor(0, 10 + at) for at in range(7)], list(range(7)))
        self.assertIs(processes.has_room(0), True)
        self.assertEqual(processes.add_descriptor(0, 17), 7)
        self.assertIs(processes.has_room(0), False)
        for _ in range(2):
            with self.assertRaises(TooMany):
                processes.add_descriptor(0, 99)
        expected = [(at, 10 + at) for at in range(8)]
        self.assertEqual(processes.list_processes(), [(0, 0, "main", 1, expected)])
        self.assertEqual([processes.find_open_file(0, at) for at in range(8)], [10 + at for at in range(8)])
        self.assertEqual([processes.drop_descriptor(0, at) for at in (6, 2, 4)], [16, 12, 14])
        self.assertEqual([at for at, _ in processes.list_processes()[0][4]], [0, 1, 3, 5, 7])
        self.assertEqual([processes.add_descriptor(0, number) for number in (5, 5, 0)], [2, 4, 6])
        self.assertEqual(
            processes.list_processes()[0][4],
            [(0, 10), (1, 11), (2, 5), (3, 13), (4, 5), (5, 15), (6, 0), (7, 17)])

    def test_each_process_has_its_own_descriptors(self):
        processes = Processes("main")
        fork(Handles(), processes, 0)
        self.assertEqual([processes.add_descriptor(1, at) for at in range(8)], list(range(8)))
        self.assertEqual((processes.has_room(0), processes.has_room(1)), (True, False))
        self.assertEqual(processes.add_descriptor(0, 3), 0)
        with self.assertRaises(BadHandle):
            processes.find_open_file(0, 1)

    def test_numbers_that_do_not_exist(self):
        processes = Processes("main")
        handles = Handles()
        for _ in range(2):
            fork(handles, processes, 0)
        for at in range(8):
            processes.add_descriptor(0, at)
        leave(None, None, handles, processes, 1)
        before = processes.list_processes()
        for process in (1, 3, *NO_PROCESSES):
            for method, given in (
                    (processes.look_up, ()), (processes.set_owner, (3,)), (processes.set_directory, ("main", 1)),
                    (processes.has_room, ()), (processes.add_descriptor, (0,)), (processes.find_open_file, (0,)),
                    (processes.find_open_file, (9,)), (processes.drop_descriptor, (0,)),
                    (processes.drop_descriptor, (9,))):
                with self.assertRaises(NoProcess):
                    method(process, *given)
        for method in (processes.find_open_file, processes.drop_descriptor):
            for descriptor in NO_DESCRIPTORS:
                with self.assertRaises(BadHandle):
                    method(0, descriptor)
            for descriptor in (0, 7, *NO_DESCRIPTORS):
                with self.assertRaises(BadHandle):
                    method(2, descriptor)
        self.assertEqual(processes.list_processes(), before)
        processes.drop_descriptor(0, 3)
        with self.assertRaises(BadHandle):
            processes.drop_descriptor(0, 3)
        with self.assertRaises(BadHandle):
            processes.find_open_file(0, 3)

    def test_what_is_returned_is_not_changed_later(self):
        processes = Processes("main")
        processes.add_descriptor(0, 5)
        rows = processes.list_processes()
        processes.add_descriptor(0, 6)
        processes.set_owner(0, 7)
        fork(handles_with(7), processes, 0)
        self.assertEqual(rows, [(0, 0, "main", 1, [(0, 5)])])
        rows[0][4].append((1, 1))
        rows.append(0)
        self.assertEqual(processes.find_open_file(0, 1), 6)
        self.assertEqual(len(processes.list_processes()), 2)
        self.assertEqual(processes.list_processes()[0][4], [(0, 5), (1, 6)])


def handles_with(many):
    """Open files with the numbers 0 to `many` - 1, each of another inode of main."""
    handles = Handles()
    for number in range(many):
        handles.add_open_file("main", 10 + number, "rw")
    return handles


class ForkTest(unittest.TestCase):

    def test_the_example_of_the_interface(self):
        handles, processes = handles_with(2), Processes("main")
        self.assertEqual([processes.add_descriptor(0, number) for number in (0, 1)], [0, 1])
        self.assertEqual(fork(handles, processes, 0), 1)
        self.assertIs(close_descriptor(None, None, handles, processes, 0, 0), None)
        self.assertEqual(handles.look_up(0), ("main", 10, "rw", 0))
        self.assertEqual(processes.add_descriptor(0, 5), 0)

    def test_what_a_forked_process_has(self):
        handles, processes = handles_with(3), Processes("main")
        for number in (2, 0, 2):
            processes.add_descriptor(0, number)
        handles.add_reference(2)
        processes.drop_descriptor(0, 1)
        processes.set_owner(0, 9)
        processes.set_directory(0, "b", 4)
        self.assertEqual(fork(handles, processes, 0), 1)
        self.assertEqual(processes.list_processes(), [
            (0, 9, "b", 4, [(0, 2), (2, 2)]), (1, 9, "b", 4, [(0, 2), (2, 2)])])
        self.assertEqual([row[5] for row in handles.open_files()], [1, 1, 4])

    def test_positions_are_shared(self):
        handles, processes = handles_with(1), Processes("main")
        processes.add_descriptor(0, 0)
        fork(handles, processes, 0)
        handles.move_to(processes.find_open_file(1, 0), 77)
        self.assertEqual(handles.look_up(processes.find_open_file(0, 0)), ("main", 10, "rw", 77))

    def test_a_forked_process_is_another_one(self):
        handles, processes = handles_with(3), Processes("main")
        processes.add_descriptor(0, 0)
        fork(handles, processes, 0)
        before = processes.list_processes()[0]
        processes.set_owner(1, 5)
        processes.set_directory(1, "b", 2)
        processes.add_descriptor(1, 1)
        processes.drop_descriptor(1, 0)
        self.assertEqual(processes.list_processes(), [before, (1, 5, "b", 2, [(1, 1)])])
        processes.add_descriptor(0, 2)
        processes.set_owner(0, 6)
        self.assertEqual(processes.list_processes()[1], (1, 5, "b", 2, [(1, 1)]))

    def test_four_processes(self):
        handles, processes = handles_with(1), Processes("main")
        processes.add_descriptor(0, 0)
        self.assertEqual([fork(handles, processes, process) for process in (0, 1, 0)], [1, 2, 3])
        before = processes.list_processes(), handles.open_files()
        for process in range(4):
            with self.assertRaises(TooMany):
                fork(handles, processes, process)
        for process in NO_PROCESSES:
            with self.assertRaises(NoProcess):
                fork(handles, processes, process)
        self.assertEqual((processes.list_processes(), handles.open_files()), before)
        for process in (2, 0):
            leave(None, None, handles, processes, process)
        self.assertEqual([row[0] for row in processes.list_processes()], [1, 3])
        self.assertEqual(handles.open_files()[0][5], 2)
        self.assertEqual([fork(handles, processes, process) for process in (3, 1)], [0, 2])
        self.assertEqual([row[0] for row in processes.list_processes()], [0, 1, 2, 3])
        self.assertEqual(handles.open_files()[0][5], 4)

    def test_numbers_that_do_not_exist(self):
        handles, processes = handles_with(1), Processes("main")
        for process in (1, 2, 3, *NO_PROCESSES):
            with self.assertRaises(NoProcess):
                fork(handles, processes, process)
        self.assertEqual(len(processes.list_processes()), 1)


class DuplicateTest(unittest.TestCase):

    def test_a_second_descriptor(self):
        handles, processes = handles_with(2), Processes("main")
        processes.add_descriptor(0, 1)
        self.assertEqual([duplicate(handles, processes, 0, 0), duplicate(handles, processes, 0, 1)], [1, 2])
        self.assertEqual(processes.list_processes(), [(0, 0, "main", 1, [(0, 1), (1, 1), (2, 1)])])
        self.assertEqual([row[5] for row in handles.open_files()], [1, 3])
        handles.move_to(1, 5)
        self.assertEqual(handles.look_up(processes.find_open_file(0, 2))[3], 5)
        processes.drop_descriptor(0, 0)
        self.assertEqual(duplicate(handles, processes, 0, 2), 0)

    def test_exceptions(self):
        handles, processes = handles_with(8), Processes("main")
        for number in range(7):
            processes.add_descriptor(0, number)
        self.refuse(handles, processes, NoProcess, [(process, 0) for process in (1, *NO_PROCESSES)])
        self.refuse(handles, processes, BadHandle, [(0, descriptor) for descriptor in (7, *NO_DESCRIPTORS)])
        self.assertEqual(duplicate(handles, processes, 0, 3), 7)
        self.refuse(handles, processes, TooMany, [(0, descriptor) for descriptor in range(8)])
        self.refuse(handles, processes, BadHandle, [(0, descriptor) for descriptor in NO_DESCRIPTORS])
        self.refuse(handles, processes, NoProcess, [(1, 0), (1, 9)])

    def refuse(self, handles, processes, error, given):
        """Check that these are refused, and that nothing is changed."""
        before = handles.open_files(), processes.list_processes()
        for process, descriptor in given:
            with self.assertRaises(error):
                duplicate(handles, processes, process, descriptor)
        self.assertEqual((handles.open_files(), processes.list_processes()), before)


class CloseCase(VolumeCase):

    def start(self):
        """Begin with three orphans and a file in main; process 0 uses descriptor k for the k-th of them."""
        VolumeCase.start(self)
        self.inodes = [
            self.add_file("main", None, [1] * 40, owner=3), self.add_file("main", "a", [1] * 40, owner=3),
            self.add_file("main", None, [1] * 70, owner=4), self.add_file("main", None, owner=3)]
        commit(self.store)
        self.accounts, self.handles, self.processes = Accounts(self.store), Handles(), Processes("main")
        for inode in self.inodes:
            self.processes.add_descriptor(0, self.handles.add_open_file("main", inode, "rw"))

    def close(self, process, descriptor):
        return close_descriptor(self.store, self.accounts, self.handles, self.processes, process, descriptor)

    def leave(self, process):
        return leave(self.store, self.accounts, self.handles, self.processes, process)

    def memory(self):
        """The processes and the open files."""
        return self.processes.list_processes(), self.handles.open_files()

    def assert_all(self):
        """Check the uses, the accounts, and that each open file has the references of [85]."""
        self.assert_uses()
        self.assert_counted(self.accounts)
        named = [number for row in self.processes.list_processes() for _, number in row[4]]
        self.assertEqual(
            {row[0]: row[5] for row in self.handles.open_files()}, {number: named.count(number) for number in named})

    def refuse(self, error, call, *given):
        """Check that a call is refused, and that nothing is changed."""
        before = state_of(self.store), usages(self.accounts), self.memory()
        with self.assertRaises(error):
            call(*given)
        self.assertEqual((state_of(self.store), usages(self.accounts), self.memory()), before)


class CloseTest(CloseCase):

    def test_files_with_and_without_a_name(self):
        self.start()
        for descriptor, inode in ((2, 4), (0, 2)):
            self.assertEqual(self.close(0, descriptor), ("main", inode))
            self.assertNotIn(inode, find_orphans(self.store, "main"))
            self.assert_all()
        self.assertIs(self.close(0, 1), None)
        self.assertEqual(self.processes.list_processes()[0][4], [(3, 3)])
        self.assertEqual([row[0] for row in self.handles.open_files()], [3])
        self.assertEqual(find_orphans(self.store, "main"), [5])
        self.assert_all()

    def test_the_blocks_are_those_of_removing(self):
        self.start()

        def by_hand(store):
            changed_by_hand(store, "main", erase_by_hand, self.inodes[2])
            return "main", self.inodes[2]

        self.assert_same_change(self.store, lambda store: self.close_and_open(2), by_hand)

    def close_and_open(self, descriptor):
        """Close a descriptor, and use it again, so that it can be closed once more."""
        found = self.close(0, descriptor)
        self.assertEqual(
            self.processes.add_descriptor(0, self.handles.add_open_file("main", self.inodes[descriptor], "rw")),
            descriptor)
        return found

    def test_an_orphan_that_has_other_references(self):
        self.start()
        self.assertEqual(duplicate(self.handles, self.processes, 0, 0), 4)
        fork(self.handles, self.processes, 0)
        before = self.shown("main")
        for process, descriptor in ((0, 0), (1, 4), (0, 4)):
            self.assertIs(self.close(process, descriptor), None)
            self.assertEqual(self.shown("main"), before)
            self.assert_all()
        self.assertEqual(self.close(1, 0), ("main", 2))
        self.assert_all()

    def test_an_orphan_that_is_open_twice(self):
        self.start()
        fork(self.handles, self.processes, 0)
        for descriptor in range(4):
            self.close(1, descriptor)
        again = self.processes.add_descriptor(1, self.handles.add_open_file("main", 2, "r"))
        self.assertIs(self.close(0, 0), None)
        self.assertEqual(find_orphans(self.store, "main"), [2, 4, 5])
        self.assertEqual(self.close(1, again), ("main", 2))
        self.assert_all()

    def test_without_enough_room(self):
        self.start()
        fill(self.store, 20)
        self.store.use_reserve(0)
        before = state_of(self.store), usages(self.accounts)
        self.assertIs(self.close(0, 2), None)
        self.assertEqual((state_of(self.store), usages(self.accounts)), before)
        self.assertEqual(self.processes.list_processes()[0][4], [(0, 0), (1, 1), (3, 3)])
        self.assertEqual([row[0] for row in self.handles.open_files()], [0, 1, 3])

    def test_an_orphan_of_a_snapshot_stays(self):
        self.start()
        take_snapshot(self.store, "main", "s")
        descriptor = self.processes.add_descriptor(0, self.handles.add_open_file("s", 2, "r"))
        before = self.shown("s")
        self.assertIs(self.close(0, descriptor), None)
        self.assertEqual(self.shown("s"), before)
        self.assertEqual(self.close(0, 0), ("main", 2))
        self.assertEqual(self.shown("s"), before)

    def test_exceptions(self):
        self.start()
        for process in (1, 3, *NO_PROCESSES):
            for descriptor in (0, 9):
                self.refuse(NoProcess, self.close, process, descriptor)
        for descriptor in (4, 7, *NO_DESCRIPTORS):
            self.refuse(BadHandle, self.close, 0, descriptor)
        self.close(0, 1)
        self.refuse(BadHandle, self.close, 0, 1)

    def test_without_power(self):
        self.start()
        self.handles.add_reference(1)
        self.processes.add_descriptor(0, 1)
        before = self.memory(), usages(self.accounts)
        self.store.disk.fail_after(0)
        with self.assertRaises(PowerOff):
            self.store.disk.flush()
        for descriptor in (0, 2, 3):
            with self.assertRaises(PowerOff):
                self.close(0, descriptor)
        with self.assertRaises(PowerOff):
            self.leave(0)
        self.assertEqual((self.memory(), usages(self.accounts)), before)
        # The first descriptor can be closed without power, the next ones cannot.
        self.handles.add_reference(0)
        before = self.memory()
        with self.assertRaises(PowerOff):
            self.leave(0)
        self.assertEqual(self.memory(), before)


class LeaveTest(CloseCase):

    def test_the_order_of_the_descriptors(self):
        self.start()
        self.processes.drop_descriptor(0, 0)
        self.processes.drop_descriptor(0, 3)
        self.assertEqual([self.processes.add_descriptor(0, number) for number in (3, 0)], [0, 3])
        self.assertEqual(self.leave(0), [("main", 5), ("main", 4), ("main", 2)])
        self.assertEqual(self.memory(), ([], []))
        self.assertEqual(find_orphans(self.store, "main"), [])
        self.assert_all()

    def test_the_blocks_are_those_of_removing_one_after_the_other(self):
        self.start()

        def by_hand(store):
            for inode in (2, 4, 5):
                changed_by_hand(store, "main", erase_by_hand, inode)
            return [("main", 2), ("main", 4), ("main", 5)]

        saved = self.store.saved()
        found = by_hand(self.store), state_of(self.store)
        self.store.restore(saved)
        self.assertEqual((self.leave(0), state_of(self.store)), found)

    def test_what_other_processes_use_stays(self):
        self.start()
        fork(self.handles, self.processes, 0)
        self.close(1, 2)
        before = self.shown("main")
        self.assertEqual(self.leave(0), [("main", 4)])
        self.assertEqual(self.shown("main"), [row for row in before if row[0][0] != 4])
        self.assertEqual(self.processes.list_processes(), [(1, 0, "main", 1, [(0, 0), (1, 1), (3, 3)])])
        self.assert_all()
        self.assertEqual(self.leave(1), [("main", 2), ("main", 5)])
        self.assertEqual(self.memory(), ([], []))
        self.assert_all()

    def test_a_file_that_the_process_uses_several_times(self):
        self.start()
        for _ in range(2):
            duplicate(self.handles, self.processes, 0, 2)
        self.assertEqual(self.leave(0), [("main", 2), ("main", 5), ("main", 4)])
        self.assert_all()

    def test_the_last_process(self):
        processes, handles = Processes("main"), Handles()
        self.assertEqual(leave(None, None, handles, processes, 0), [])
        self.assertEqual(processes.list_processes(), [])
        for call in (processes.look_up, processes.has_room, lambda process: fork(handles, processes, process),
                     lambda process: leave(None, None, handles, processes, process)):
            with self.assertRaises(NoProcess):
                call(0)
        for found in (processes.works_in("main", 1), processes.uses_volume("main"), processes.uses_owner(0)):
            self.assertIs(found, False)

    def test_without_enough_room(self):
        self.start()
        fill(self.store, 20)
        before = self.shown("main"), usages(self.accounts)
        self.assertEqual(self.leave(0), [])
        self.assertEqual((self.shown("main"), usages(self.accounts)), before)
        self.assertEqual(self.memory(), ([], []))

    def test_two_volumes_with_the_same_inodes(self):
        self.start()
        make_volume(self.store, self.accounts, "b")
        self.add_file("b", None, [1] * 40, owner=3)
        self.accounts = Accounts(self.store)
        self.processes.add_descriptor(0, self.handles.add_open_file("b", 2, "r"))
        self.assertEqual(self.leave(0), [("main", 2), ("main", 4), ("main", 5), ("b", 2)])
        self.assert_all()

    def test_exceptions(self):
        self.start()
        for process in (1, 3, *NO_PROCESSES):
            self.refuse(NoProcess, self.leave, process)

    def test_by_chance(self):
        chance = random.Random(1)
        for _ in range(20):
            self.start()
            for _ in range(40):
                processes = [row[0] for row in self.processes.list_processes()]
                process, descriptor = chance.choice(processes), chance.randrange(8)
                try:
                    chance.choice([
                        lambda: fork(self.handles, self.processes, process),
                        lambda: duplicate(self.handles, self.processes, process, descriptor),
                        lambda: self.close(process, descriptor), lambda: self.close(process, descriptor),
                        lambda: self.leave(process) if len(processes) > 1 else None])()
                except (TooMany, BadHandle):
                    pass
            self.assert_all()
            opened = {row[2] for row in self.handles.open_files()}
            self.assertEqual(set(find_orphans(self.store, "main")), opened & {2, 4, 5})


if __name__ == "__main__":
    unittest.main()
