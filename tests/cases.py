"""Test cases with a system, for the tests of calls."""

import pickle
import unittest

from helpers import fill, state_of as store_state, usages
from laminae.checks import check
from laminae.errors import LaminaError, NoSpace
from laminae.intents import check_intent, play_all
from laminae.mounts import open_disk
from laminae.owners import Accounts
from laminae.system import System, state_of
from laminae.words import name_word

MAIN = name_word("main")
GREAT = 10 ** 20


def copy_of(value):
    """A copy of a system or of another object, with all that it has."""
    return pickle.loads(pickle.dumps(value))


def outside(low, high):
    """Integers outside of bounds, on both sides."""
    return [low - 1, high + 1, -GREAT, GREAT]


def outcome(function, *given):
    """What a call returns, or the class of what it raises."""
    try:
        return "returned", function(*given)
    except LaminaError as error:
        return "raised", error.__class__


class SystemCase(unittest.TestCase):
    """A test case with a mounted system; calls are made by process 0 if no other one is named."""

    def start(self, blocks=256):
        self.system = System(blocks)

    @property
    def session(self):
        return self.system.session

    @property
    def store(self):
        return self.system.session.store

    def ask(self, name, *given, process=0):
        return self.system.ask(name, process, *given)

    def make_file(self, path, cells=(), process=0):
        """Make a file with these cells, and return its inode."""
        descriptor = self.ask("open_file", path, "rwmn", process=process)
        self.ask("write_cells", descriptor, list(cells), process=process)
        inode = self.ask("describe_open", descriptor, process=process)[1]
        self.ask("close_file", descriptor, process=process)
        return inode

    def cells(self, path):
        """All cells of a file."""
        descriptor = self.ask("open_file", path, "r")
        found = self.ask("read_cells", descriptor, 2048)
        self.ask("close_file", descriptor)
        return found

    def commit(self):
        self.session.commit_changes()

    def seen(self):
        """All that a refused call must leave as it was."""
        session = self.session
        return (
            session.handles.open_files(), session.processes.list_processes(), usages(session.accounts),
            session.changes, session.logged, self.system.image(), session.store.disk.waiting(),
            store_state(session.store)[:5])

    def refuse(self, error, name, *given, process=0, full=None):
        """Check that a call is refused, also if no block is free: with `full` then, or with the same error."""
        self.refuse_as_it_is(error, name, *given, process=process)
        # Without a pending block the call makes no commit, and everything stays as it was.
        self.commit()
        saved = self.store.saved()
        fill(self.store, 0)
        self.refuse_as_it_is(error if full is None else full, name, *given, process=process)
        self.store.restore(saved)

    def refuse_as_it_is(self, error, name, *given, process=0):
        before, arguments = self.seen(), copy_of(given)
        with self.assertRaises(error, msg=(name, given)) as caught:
            self.system.ask(name, process, *given)
        self.assertIs(caught.exception.__class__, error, (name, given))
        self.assertEqual(self.seen(), before, (name, given))
        self.assertEqual(given, arguments)

    def assert_needs_room(self, reserve, name, *given, process=0):
        """Check that a call raises NoSpace as long as there is not enough room above a reserve; then it is done."""
        self.commit()
        saved, needed = self.store.saved(), 0
        while True:
            fill(self.store, reserve + needed)
            before = self.seen()
            found = outcome(self.ask_as(process), name, *given)
            if found[1] is not NoSpace:
                break
            self.assertEqual(self.seen(), before, (name, given))
            self.assertEqual(self.store.reserve, reserve, name)
            self.store.restore(saved)
            needed += 1
        self.assertEqual(found[0], "returned", (name, given, found))
        self.assertGreater(needed, 0, (name, given))
        return found[1]

    def ask_as(self, process):
        return lambda name, *given: self.ask(name, *given, process=process)

    def assert_noted(self, expected, name, *given, process=0):
        """Check which intents a call notes; returns what the call returns."""
        before = self.session.changes
        found = self.ask(name, *given, process=process)
        self.assertEqual(self.session.changes, before + expected, (name, given))
        self.assert_all()
        return found

    def assert_unchanged(self, name, *given, process=0):
        """Check that a call succeeds and changes nothing on the disk and in the store."""
        before = self.seen()[2:]
        found = self.ask(name, *given, process=process)
        self.assertEqual(self.seen()[2:], before, (name, given))
        return found

    def assert_all(self):
        """Check what always holds: [85], [94], [109], and that the image is valid."""
        session = self.session
        self.assertTrue(all(check_intent(intent) for intent in session.changes), session.changes)
        store = open_disk(session.store.disk)
        play_all(store, session.changes)
        self.assertEqual(store_state(store)[:5], store_state(session.store)[:5])
        self.assertEqual(state_of(store), self.system.state())
        self.assertEqual(usages(session.accounts), usages(Accounts(session.store)))
        named = [number for row in session.processes.list_processes() for _, number in row[4]]
        self.assertEqual(
            {row[0]: row[5] for row in session.handles.open_files()}, {number: named.count(number) for number in named})
        check(self.system.image())
