"""Sessions: a mounted file system, and what was changed in it since the last commit."""

from laminae.commits import commit
from laminae.errors import BadImage, LaminaError, PowerOff
from laminae.handles import Handles
from laminae.intents import Log
from laminae.mounts import mount
from laminae.owners import Accounts
from laminae.procs import Processes
from laminae.volumes import list_volumes

FEW_BLOCKS = 100


def first_writable(store):
    """Return the name of the first writable volume."""
    names = [name for name, writable, _ in list_volumes(store) if writable]
    if names == []:
        raise BadImage()
    return names[0]


class Session:
    """A store in use: its accounts, open files and processes, and the changes since its last commit."""

    def __init__(self, store):
        """Begin with process 0, without open files and without changes."""
        self.store = store
        self.accounts = Accounts(store)
        self.handles = Handles()
        self.processes = Processes(first_writable(store))
        self.changes = []
        self.logged = 0
        self.log = Log(store.head.generation)

    def commit_changes(self):
        """Make everything last; tell whether there was something to commit."""
        was_due = commit(self.store)
        self.changes = []
        self.logged = 0
        if was_due:
            self.log = Log(self.store.head.generation)
        return was_due

    def write_log(self):
        """Make the changes last by the log, or by a commit if they do not fit; return a word that says which."""
        fresh = self.changes[self.logged:]
        if fresh == []:
            return ""
        if not self.log.fits(fresh):
            self.commit_changes()
            return "commit"
        disk = self.store.disk
        for sector, words in self.log.append_records(fresh):
            disk.write(sector, words)
        disk.flush()
        self.logged = len(self.changes)
        return "log"

    def note(self, intent):
        """Append a change."""
        self.changes = self.changes + [intent]

    def prepare(self, reserve):
        """Get ready for a change: commit if that frees blocks which are needed; return the state of the store."""
        if self.store.free() < FEW_BLOCKS and self.store.space.pending() > 0:
            self.commit_changes()
        self.store.use_reserve(reserve)
        return self.store.saved()


def mounted_session(disk):
    """Open and recover a disk, and return a session for it."""
    try:
        return Session(mount(disk))
    except PowerOff:
        raise
    except LaminaError:
        raise BadImage()
