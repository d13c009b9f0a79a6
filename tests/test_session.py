"""Sessions: points [104] to [109], and [113] for what `prepare` does."""

import unittest

from helpers import VolumeCase, fill, root_of, state_of, usages
from images import disk_of, leaf
from laminae.commits import commit, commit_steps
from laminae.disk import disk_from
from laminae.errors import BadImage, LaminaError, Missing, NoSpace, PowerOff
from laminae.handles import Handles
from laminae.heads import log_mark, present_head
from laminae.intents import Log, play_all, record_sectors, whole_records
from laminae.mounts import make_disk, mount, open_disk
from laminae.owners import Accounts
from laminae.procs import Processes
from laminae.session import Session, mounted_session
from laminae.store import attempt
from laminae.trees import take
from laminae.volumes import clone_snapshot, drop_volume, make_volume, take_snapshot
from laminae.words import name_word

MAIN = name_word("main")


def new_session(blocks=256):
    """The session of a new disk."""
    return Session(mount(make_disk(blocks)))


def do(session, *intents):
    """Make changes, and note them."""
    play_all(session.store, intents)
    for intent in intents:
        session.note(intent)


def making(at):
    """The intent of making an empty file in the root directory of main."""
    return (1, MAIN, 1, name_word(f"f{at}"), 1, 0)


def log_sectors(disk):
    """The sectors of the log."""
    return [disk.read(sector) for sector in range(4, 20)]


class NewSessionTest(VolumeCase):

    def test_fields(self):
        store = mount(make_disk(96))
        session = Session(store)
        self.assertIs(session.store, store)
        for value, kind in ((session.accounts, Accounts), (session.handles, Handles),
                            (session.processes, Processes), (session.log, Log)):
            self.assertIsInstance(value, kind)
        self.assertEqual((session.changes, session.logged, session.handles.open_files()), ([], 0, []))
        self.assertEqual(session.processes.list_processes(), [(0, 0, "main", 1, [])])
        self.assertEqual((session.log.generation, session.log.next_sector, session.log.next_record), (1, 4, 1))
        self.assertEqual(usages(session.accounts), usages(Accounts(store)))

    def test_later_generations_and_charges(self):
        self.start()
        self.add_file("main", "a", [1] * 40, owner=7)
        commit(self.store)
        session = Session(mount(self.store.disk))
        self.assertEqual(session.log.generation, self.store.head.generation)
        self.assertEqual(session.accounts.usage(7), (3, 1))

    def test_the_first_writable_volume(self):
        self.start()
        make_volume(self.store, None, "z")
        take_snapshot(self.store, "main", "a")
        self.assertEqual(Session(self.store).processes.look_up(0), (0, "main", 1))
        clone_snapshot(self.store, None, "a", "c-")
        clone_snapshot(self.store, None, "a", "c.")
        self.assertEqual(Session(self.store).processes.look_up(0), (0, "c.", 1))
        store = mount(make_disk(96))
        make_volume(store, None, "x")
        drop_volume(store, None, "main")
        self.assertEqual(Session(store).processes.look_up(0), (0, "x", 1))

    def test_a_store_without_a_writable_volume(self):
        self.start()
        take_snapshot(self.store, "main", "a")
        table, _ = take(self.store, self.store.table, (0, 4, MAIN))
        self.store.use_table(table)
        with self.assertRaises(BadImage):
            Session(self.store)


class MountedSessionTest(unittest.TestCase):

    def test_a_session_of_a_disk(self):
        disk = make_disk(96)
        session = mounted_session(disk)
        self.assertIs(session.store.disk, disk)
        self.assertEqual(session.processes.list_processes(), [(0, 0, "main", 1, [])])

    def test_disks_that_are_not_valid(self):
        items = [((0, 4, MAIN), (6, 1, 1, 0))]
        records = {6: leaf(6, 1, [((1, 1, 0), (2, 1, 0, 0))])}
        self.assertEqual(mounted_session(disk_of({5: leaf(5, 1, items), **records}, (5, 1))).logged, 0)
        for items in (
                [((0, 4, MAIN + 1), (6, 1, 1, 0))], [((0, 4, MAIN), (6, 1, 1, 3))], [((0, 4, MAIN), (6, 1, 0, 0))], [],
                [((0, 4, MAIN), (5, 1, 1, 0)), ((0, 4, MAIN + 1), (5, 1, 1, 0))]):
            with self.assertRaises(BadImage):
                mounted_session(disk_of({5: leaf(5, 1, items), **records}, (5, 1)))

    def test_power_off(self):
        disk = make_disk(96)
        disk.fail_after(0)
        self.assertRaises(PowerOff, disk.flush)
        with self.assertRaises(PowerOff):
            mounted_session(disk)


class NoteTest(unittest.TestCase):

    def test_changes_in_their_order(self):
        session = new_session()
        intents = [making(1), making(2), making(1)]
        for at, intent in enumerate(intents):
            self.assertIs(session.note(intent), None)
            self.assertEqual((session.changes, session.logged), (intents[:at + 1], 0))
        self.assertEqual(session.store.new_blocks(), [])


class CommitTest(unittest.TestCase):

    def test_nothing_to_commit(self):
        session = new_session()
        log, image = session.log, session.store.disk.image()
        session.store.disk.fail_after(0)
        for _ in range(2):
            self.assertIs(session.commit_changes(), False)
            self.assertEqual((session.changes, session.logged), ([], 0))
            self.assertIs(session.log, log)
        session.note(making(1))
        self.assertIs(session.commit_changes(), False)
        self.assertEqual((session.changes, session.logged, session.log.generation), ([], 0, 1))
        self.assertEqual(session.store.disk.image(), image)

    def test_the_steps_are_those_of_the_store(self):
        session = new_session()
        do(session, making(1), (6, MAIN, 2, 0, *[5] * 40))
        steps = commit_steps(session.store)
        disk = session.store.disk
        image = disk.lasting()
        for step in steps:
            if step[0] == "write":
                image[step[1]] = step[2]
        self.assertIs(session.commit_changes(), True)
        self.assertEqual((disk.lasting(), disk.waiting()), (image, []))
        self.assertEqual((session.changes, session.logged), ([], 0))
        self.assertEqual((session.log.generation, session.log.next_sector, session.log.next_record), (2, 4, 1))
        self.assertEqual(session.store.head.generation, 2)
        self.assertIs(session.commit_changes(), False)

    def test_after_changes_that_are_logged(self):
        session = new_session()
        do(session, making(1))
        self.assertEqual(session.write_log(), "log")
        do(session, making(2))
        self.assertIs(session.commit_changes(), True)
        self.assertEqual((session.changes, session.logged), ([], 0))
        self.assertEqual((session.log.generation, session.log.next_sector, session.log.next_record), (2, 4, 1))
        self.assertEqual(log_mark(session.store.disk), 1)
        self.assertIs(session.commit_changes(), False)

    def test_power_off(self):
        session = new_session()
        session.store.disk.fail_after(0)
        do(session, making(1))
        for _ in range(2):
            with self.assertRaises(PowerOff):
                session.commit_changes()


class LogTest(unittest.TestCase):

    def test_no_changes(self):
        session = new_session()
        image = session.store.disk.image()
        session.store.disk.fail_after(0)
        self.assertEqual(session.write_log(), "")
        self.assertEqual((session.store.disk.image(), session.logged), (image, 0))

    def test_the_records(self):
        session = new_session()
        disk = session.store.disk
        image = disk.lasting()
        intents = [making(1), (6, MAIN, 2, 0, 1, 2, 3, 4)]
        do(session, *intents)
        self.assertEqual(session.write_log(), "log")
        records = record_sectors(intents[0], 1, 1) + record_sectors(intents[1], 2, 1)
        image[4:4 + len(records)] = records
        # The writes last: a flush followed them.
        self.assertEqual((disk.lasting(), disk.waiting()), (image, []))
        self.assertEqual((session.changes, session.logged, session.log.next_sector), (intents, 2, 4 + len(records)))
        disk.fail_after(0)
        self.assertEqual(session.write_log(), "")
        disk.fail_after(None)
        do(session, (7, MAIN, 2, 2))
        self.assertEqual(session.write_log(), "log")
        image[4 + len(records):6 + len(records)] = record_sectors((7, MAIN, 2, 2), 3, 1)
        self.assertEqual(disk.lasting(), image)
        self.assertEqual((session.logged, session.log.next_record, present_head(disk).generation), (3, 4, 1))

    def test_the_order_of_the_writes(self):
        session = new_session()
        do(session, making(1), making(2))
        for count in range(5):
            disk = session.store.disk
            copy = Session(open_disk(disk_from(disk.lasting())))
            do(copy, making(1), making(2))
            copy.store.disk.fail_after(count)
            self.assertRaises(PowerOff, copy.write_log)
            self.assertEqual([sector for sector, _ in copy.store.disk.waiting()], list(range(4, 4 + count)))
        copy = Session(open_disk(disk_from(disk.lasting())))
        do(copy, making(1), making(2))
        copy.store.disk.fail_after(5)
        self.assertEqual(copy.write_log(), "log")

    def filled(self, sectors):
        """A session with changes whose records take so many sectors."""
        session = new_session()
        do(session, making(1))
        do(session, (6, MAIN, 2, 0, *range(1, 4 * (sectors - 2) - 4)))
        self.assertEqual(sum((len(intent) + 4) // 4 for intent in session.changes), sectors)
        return session

    def test_a_log_that_is_full(self):
        session = self.filled(16)
        self.assertEqual(session.write_log(), "log")
        disk = session.store.disk
        self.assertEqual((session.logged, session.log.next_sector, log_mark(disk)), (2, 20, 1))
        self.assertEqual(whole_records(log_sectors(disk), 1), session.changes)
        self.assertEqual(session.write_log(), "")
        do(session, (7, MAIN, 2, 3))
        self.assertEqual(session.write_log(), "commit")
        self.assertEqual((session.changes, session.logged, session.log.generation), ([], 0, 2))
        self.assertEqual(present_head(disk).generation, 2)

    def test_changes_that_do_not_fit(self):
        session = self.filled(17)
        before = log_sectors(session.store.disk)
        self.assertEqual(session.write_log(), "commit")
        self.assertEqual((session.changes, session.logged, session.log.generation), ([], 0, 2))
        self.assertEqual((log_sectors(session.store.disk), session.store.disk.waiting()), (before, []))
        self.assertEqual(commit_steps(session.store), [])
        self.assertEqual(session.write_log(), "")
        do(session, (7, MAIN, 2, 3))
        self.assertEqual(session.write_log(), "log")
        self.assertEqual(whole_records(log_sectors(session.store.disk), 2), [(7, MAIN, 2, 3)])

    def test_changes_of_which_some_are_logged(self):
        session = self.filled(10)
        self.assertEqual(session.write_log(), "log")
        for at in (10, 11, 12):
            do(session, making(at))
            self.assertEqual((session.write_log(), session.logged), ("log", at - 7))
        self.assertEqual(session.log.next_sector, 20)
        image = session.store.disk.lasting()
        self.assertEqual(session.write_log(), "")
        self.assertEqual(session.store.disk.lasting(), image)
        do(session, making(13))
        self.assertEqual(session.write_log(), "commit")

    def test_what_was_logged_lasts(self):
        session = self.filled(10)
        session.write_log()
        do(session, making(5))
        before = session.store.disk.lasting()
        disk = disk_from(before)
        session.changes.pop()
        store = open_disk(disk_from(before))
        play_all(store, session.changes)
        found = mount(disk)
        self.assertEqual(root_of(found, "main"), root_of(store, "main"))


class PrepareTest(VolumeCase):

    def start_with(self, free, pending):
        """Begin with a session with so many free blocks and a pending block, or none."""
        self.session = new_session(256)
        store = self.session.store
        if pending:
            do(self.session, making(1))
        else:
            self.session.note(making(1))
        fill(store, free)
        self.assertEqual((store.free(), store.space.pending() > 0), (free, pending))
        return store

    def test_when_a_commit_is_made(self):
        for free, pending in ((99, True), (100, True), (99, False), (100, False), (0, True), (0, False), (98, True)):
            for reserve in (60, 20, 0):
                store = self.start_with(free, pending)
                image, changes = store.disk.image(), self.session.changes
                self.session.prepare(reserve)
                self.assertEqual(store.reserve, reserve)
                if free < 100 and pending:
                    self.assertEqual((store.head.generation, self.session.changes), (2, []))
                    self.assertEqual((store.space.pending(), self.session.log.generation), (0, 2))
                else:
                    self.assertEqual((store.disk.image(), self.session.changes), (image, changes))

    def test_one_pending_block(self):
        store = self.start_with(99, False)
        self.session.prepare(60)
        self.assertEqual(len(self.session.changes), 1)
        store.space.drop(store.table[0])
        self.assertEqual((store.free(), store.space.pending()), (99, 1))
        self.session.prepare(60)
        self.assertEqual(self.session.changes, [])

    def test_the_value_restores_the_store(self):
        for free in (150, 99):
            store = self.start_with(free, True)
            saved = self.session.prepare(0)
            before = state_of(store)
            do(self.session, making(2), (6, MAIN, 2, 0, 1))
            self.assertNotEqual(state_of(store), before)
            store.restore(saved)
            self.assertEqual(state_of(store), before)

    def test_power_off(self):
        store = self.start_with(99, True)
        store.disk.fail_after(0)
        with self.assertRaises(PowerOff):
            self.session.prepare(60)


class AttemptTest(VolumeCase):

    def test_work_that_is_done(self):
        self.start()
        table = self.store.table
        found = attempt(self.store, self.store.saved(), self.work, None)
        self.assertEqual(found, 5)
        self.assertNotEqual(self.store.table, table)

    def work(self, error):
        """Change the store, and raise the error, if there is one."""
        play_all(self.store, [making(1)])
        if error is not None:
            raise error()
        return 5

    def test_refused_work_changes_nothing(self):
        self.start()
        for error in (Missing, NoSpace, BadImage, LaminaError):
            before = state_of(self.store)
            with self.assertRaises(error) as caught:
                attempt(self.store, self.store.saved(), self.work, error)
            self.assertIs(caught.exception.__class__, error)
            self.assertEqual(state_of(self.store), before)

    def test_power_off(self):
        self.start()
        table = self.store.table
        with self.assertRaises(PowerOff):
            attempt(self.store, self.store.saved(), self.work, PowerOff)
        self.assertNotEqual(self.store.table, table)


class ReplayTest(unittest.TestCase):

    def test_playing_the_changes_on_the_present_head(self):
        session = new_session()
        do(session, making(1), (6, MAIN, 2, 0, *[5] * 40), making(2))
        for intents in (
                [(3, MAIN, 1, name_word("f2")), (10, MAIN, 3)], [(8, MAIN, 2, 0, 2, 3, 2)],
                [(2, MAIN, 2, 1, name_word("x")), (9, MAIN, 2, 4)], [(5, MAIN, 1, name_word("x"), 1, name_word("y"))]):
            do(session, *intents)
            store = open_disk(session.store.disk)
            play_all(store, session.changes)
            self.assertEqual(state_of(store), state_of(session.store))
            if len(intents) == 2:
                session.write_log()


if __name__ == "__main__":
    unittest.main()
