"""The system: a disk and, while it is mounted, a session that answers calls."""

from laminae.admin import (
    become, create_clone, create_snapshot, create_volume, current_path, delete_owner, delete_volume, duplicate_file,
    end_process, enter_directory, fork_process, owner_usage, put_owner, restore_volume, room, show_owners,
    show_volumes, sync_all, sync_file)
from laminae.calls import (
    close_file, describe, describe_open, list_directory, move_to, open_file, read_cells, resize, share_units,
    write_cells)
from laminae.data import list_units
from laminae.dirs import list_entries
from laminae.errors import Busy, NotValid, PowerOff
from laminae.inodes import FILE, list_inodes
from laminae.mounts import make_disk
from laminae.naming import give_path, link_file, make_directory, remove_directory, rename_path, unlink_file
from laminae.owners import registered_owners
from laminae.session import mounted_session
from laminae.volumes import find_volume, list_volumes
from laminae.words import word_name


def call_table():
    """Return a dict from the name of each call to its function, in the order of the interface."""
    return {
        "open_file": open_file, "close_file": close_file, "read_cells": read_cells, "write_cells": write_cells,
        "move_to": move_to, "resize": resize, "share_units": share_units, "describe": describe,
        "describe_open": describe_open, "list_directory": list_directory,
        "make_directory": make_directory, "remove_directory": remove_directory, "link_file": link_file,
        "unlink_file": unlink_file, "rename_path": rename_path, "give_path": give_path,
        "duplicate_file": duplicate_file, "fork_process": fork_process, "end_process": end_process,
        "enter_directory": enter_directory, "current_path": current_path, "become": become,
        "create_volume": create_volume, "create_snapshot": create_snapshot, "create_clone": create_clone,
        "restore_volume": restore_volume, "delete_volume": delete_volume, "show_volumes": show_volumes,
        "put_owner": put_owner, "delete_owner": delete_owner, "show_owners": show_owners,
        "owner_usage": owner_usage, "sync_file": sync_file, "sync_all": sync_all, "room": room,
    }


def call_names():
    """Return the names of all calls in the order of the interface."""
    return list(call_table())


class System:
    """A disk whose power can fail, and the session that is lost with it."""

    def __init__(self, blocks):
        """Make a new disk, and mount it."""
        self.disk = make_disk(blocks)
        self.session = None
        self.mount()

    def fail_after(self, count):
        """Let the power fail ahead of the disk operation with this number from now on."""
        self.disk.fail_after(count)

    def cut(self, choices):
        """Decide what becomes of each waiting write; what is in memory is lost."""
        self.disk.cut(choices)
        self.session = None

    def mount(self):
        """Open and recover the disk, and make a session."""
        if self.session is not None:
            raise Busy()
        self.session = mounted_session(self.disk)

    def unmount(self):
        """Make everything last, and end the session."""
        session = self._mounted()
        others = [row for row in session.processes.list_processes() if row[0] != 0]
        if session.handles.open_files() != [] or others != []:
            raise Busy()
        # The session ends also if the power fails.
        self.session = None
        session.commit_changes()

    def ask(self, name, process, *arguments):
        """Return the value of a call."""
        actions = call_table()
        if name not in actions:
            raise NotValid()
        session = self._mounted()
        action = actions[name]
        try:
            return action(session, process, *arguments)
        except PowerOff:
            self.session = None
            raise

    def state(self):
        """Return what the mounted file system shows."""
        return state_of(self._mounted().store)

    def image(self):
        """Return all sectors of the disk as they would be read."""
        return self.disk.image()

    def _mounted(self):
        """Return the session; refuse if the disk is not mounted."""
        if self.session is None:
            raise PowerOff()
        return self.session


def state_of(store):
    """Return what a store shows: its volumes with their inodes, and its owners."""
    volumes = []
    for name, writable, origin in list_volumes(store):
        root, _, _ = find_volume(store, name)
        volumes.append((name, writable, origin, inodes_of(store, root)))
    return (volumes, registered_owners(store))


def inodes_of(store, root):
    """Return each inode of a volume with its record and its content; files without a name are left out."""
    found = []
    for inode, record in list_inodes(store, root):
        if record[:2] != (FILE, 0):
            found.append((inode, *record, content_of(store, root, inode, record[0])))
    return found


def content_of(store, root, inode, kind):
    """Return the units of a file or the entries of a directory."""
    if kind == FILE:
        return list_units(store, root, inode)
    return [(word_name(name), other) for name, other, _ in list_entries(store, root, inode)]
