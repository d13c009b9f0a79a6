"""The calls for processes, volumes and owners, and those that make changes last."""

from laminae.common import change, check_descriptor, check_number, find_path, note_erased
from laminae.dirs import directory_record
from laminae.errors import Busy, Missing, NotValid
from laminae.mounts import release_waiting
from laminae.owners import GREATEST_OWNER, is_limit
from laminae.paths import path_names
from laminae.procs import duplicate, fork, leave
from laminae.space import ADD, REMOVE
from laminae.volumes import (
    clone_snapshot, drop_volume, find_volume, list_volumes, make_volume, roll_back, take_snapshot)
from laminae.words import word_name


def duplicate_file(session, process, descriptor):
    """Return a second descriptor for an open file."""
    check_descriptor(descriptor)
    return duplicate(session.handles, session.processes, process, descriptor)


def fork_process(session, process):
    """Make a process that has what another one has, and return its number."""
    return fork(session.handles, session.processes, process)


def end_process(session, process):
    """End a process, and close its descriptors."""
    session.processes.look_up(process)
    change(session, REMOVE, end_now, process)


def end_now(session, process):
    """End a process, and note the removal of files."""
    for volume, inode in leave(session.store, session.accounts, session.handles, session.processes, process):
        note_erased(session, volume, inode)


def enter_directory(session, process, path):
    """Let a process work in another directory."""
    session.processes.look_up(process)
    volume, root, inode = find_path(session, process, path)
    directory_record(session.store, root, inode)
    session.processes.set_directory(process, volume, inode)


def current_path(session, process):
    """Return the path of the working directory of a process."""
    _, volume, directory = session.processes.look_up(process)
    root, _, _ = find_volume(session.store, volume)
    names = [word_name(name) for name in path_names(session.store, root, directory)]
    return "/".join([f"@{volume}", *names])


def become(session, process, owner):
    """Let a process have another owner."""
    check_number(owner, 0, GREATEST_OWNER)
    session.processes.look_up(process)
    if not session.accounts.is_registered(owner):
        raise Missing()
    session.processes.set_owner(process, owner)


def change_table(session, process, reserve, work, *arguments):
    """Do work on volumes or owners that may be refused, and make it last; then release the roots that wait."""
    session.processes.look_up(process)
    change(session, reserve, work, *arguments)
    session.commit_changes()
    while release_waiting(session.store):
        session.commit_changes()


def create_volume(session, process, name):
    """Make an empty volume."""
    change_table(session, process, ADD, create_now, name)


def create_now(session, name):
    """Make an empty volume."""
    make_volume(session.store, session.accounts, name)


def create_snapshot(session, process, volume, name):
    """Make a snapshot of a volume."""
    change_table(session, process, ADD, snapshot_now, volume, name)


def snapshot_now(session, volume, name):
    """Make a snapshot of a volume."""
    take_snapshot(session.store, volume, name)


def create_clone(session, process, snapshot, name):
    """Make a writable volume from a snapshot."""
    change_table(session, process, ADD, clone_now, snapshot, name)


def clone_now(session, snapshot, name):
    """Make a writable volume from a snapshot."""
    clone_snapshot(session.store, session.accounts, snapshot, name)


def check_unused_volume(session, volume):
    """Refuse a volume of which a file is open or that a process works in."""
    if session.handles.uses_volume(volume) or session.processes.uses_volume(volume):
        raise Busy()


def restore_volume(session, process, volume, snapshot):
    """Give a volume the tree of its snapshot."""
    change_table(session, process, ADD, restore_now, volume, snapshot)


def restore_now(session, volume, snapshot):
    """Give a volume the tree of its snapshot."""
    find_volume(session.store, volume)
    find_volume(session.store, snapshot)
    check_unused_volume(session, volume)
    roll_back(session.store, session.accounts, volume, snapshot)


def delete_volume(session, process, name):
    """Drop a volume."""
    change_table(session, process, 0, delete_now, name)


def delete_now(session, name):
    """Drop a volume."""
    find_volume(session.store, name)
    check_unused_volume(session, name)
    drop_volume(session.store, session.accounts, name)


def show_volumes(session, process):
    """Return the name, whether it is writable, and the origin of each volume."""
    session.processes.look_up(process)
    return list_volumes(session.store)


def put_owner(session, process, owner, parent, charge_limit, inode_limit):
    """Register an owner, or give it another parent and other limits."""
    check_number(owner, 1, GREATEST_OWNER)
    check_number(parent, 0, GREATEST_OWNER)
    if not is_limit(charge_limit) or not is_limit(inode_limit):
        raise NotValid()
    change_table(session, process, ADD, put_owner_now, owner, parent, charge_limit, inode_limit)


def put_owner_now(session, owner, parent, charge_limit, inode_limit):
    """Register an owner, or give it another parent and other limits."""
    session.accounts.put_owner(session.store, owner, parent, charge_limit, inode_limit)


def delete_owner(session, process, owner):
    """Remove a registered owner."""
    check_number(owner, 1, GREATEST_OWNER)
    change_table(session, process, 0, delete_owner_now, owner)


def delete_owner_now(session, owner):
    """Remove a registered owner whom no process has."""
    if not session.accounts.is_registered(owner):
        raise Missing()
    if session.processes.uses_owner(owner):
        raise Busy()
    session.accounts.drop_owner(session.store, owner)


def show_owners(session, process):
    """Return each owner with its parent and its limits."""
    session.processes.look_up(process)
    return session.accounts.list_owners()


def owner_usage(session, process, owner):
    """Return what an owner is charged, and how many inodes."""
    check_number(owner, 0, GREATEST_OWNER)
    session.processes.look_up(process)
    return session.accounts.usage(owner)


def sync_file(session, process, descriptor):
    """Make everything last that changed, by the log if it fits."""
    check_descriptor(descriptor)
    session.processes.find_open_file(process, descriptor)
    session.write_log()


def sync_all(session, process):
    """Make everything last that changed, by a commit."""
    session.processes.look_up(process)
    session.commit_changes()


def room(session, process):
    """Return the numbers of free, of pending and of all blocks."""
    session.processes.look_up(process)
    space = session.store.space
    return (space.free(), space.pending(), space.blocks)
