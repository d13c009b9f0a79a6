"""The calls that change names, and whom inodes belong to."""

from laminae.common import change, check_number, find_path, find_place, make_change, make_inode, note_erased
from laminae.dirs import count_entries, find_entry
from laminae.errors import Busy, CrossVolume, Exists, Missing, NotEmpty, WrongKind
from laminae.handles import is_removable, remove_if_room
from laminae.inodes import DIRECTORY, FILE, charge_of, read_record
from laminae.intents import GIVE, LINK, MOVE, REMOVE_DIRECTORY, UNLINK
from laminae.owners import GREATEST_OWNER
from laminae.paths import split_path
from laminae.space import ADD, REMOVE
from laminae.volumes import find_writable


def make_directory(session, process, path):
    """Make a directory, and return its inode."""
    session.processes.look_up(process)
    return change(session, ADD, make_directory_now, process, path)


def make_directory_now(session, process, path):
    """Make a directory, and return its inode."""
    place = find_place(session, process, path)
    check_unused(session, place)
    find_writable(session.store, place[0])
    return make_inode(session, process, place, DIRECTORY)


def check_unused(session, place):
    """Refuse a place whose name is in use."""
    _, root, directory, name = place
    if find_entry(session.store, root, directory, name) is not None:
        raise Exists()


def check_kind(session, root, inode, kind):
    """Refuse an inode of another kind."""
    if read_record(session.store, root, inode)[0] != kind:
        raise WrongKind()


def remove_directory(session, process, path):
    """Remove an empty directory."""
    session.processes.look_up(process)
    change(session, REMOVE, remove_directory_now, process, path)


def remove_directory_now(session, process, path):
    """Remove an empty directory."""
    volume, root, inode = find_path(session, process, path)
    check_kind(session, root, inode, DIRECTORY)
    # A path without names leads to a root or to the working directory of the process.
    if not has_names(path) or session.processes.works_in(volume, inode):
        raise Busy()
    if count_entries(session.store, root, inode) > 0:
        raise NotEmpty()
    _, _, directory, name = find_place(session, process, path)
    owner = read_record(session.store, root, inode)[3]
    make_change(session, REMOVE_DIRECTORY, volume, directory, name)
    session.accounts.add_charge(owner, -1, -1)


def has_names(path):
    """Tell whether a path has names."""
    _, _, names = split_path(path)
    return names != []


def link_file(session, process, old, new):
    """Give a file another name."""
    session.processes.look_up(process)
    change(session, ADD, link_now, process, old, new)


def link_now(session, process, old, new):
    """Give a file another name."""
    volume, root, inode = find_path(session, process, old)
    check_kind(session, root, inode, FILE)
    place = find_place(session, process, new)
    other, _, directory, name = place
    if volume != other:
        raise CrossVolume()
    check_unused(session, place)
    make_change(session, LINK, volume, inode, directory, name)


def unlink_file(session, process, path):
    """Remove a name of a file."""
    session.processes.look_up(process)
    change(session, REMOVE, unlink_now, process, path)


def unlink_now(session, process, path):
    """Remove a name of a file, and the file if nothing else keeps it."""
    volume, root, inode = find_path(session, process, path)
    check_kind(session, root, inode, FILE)
    _, _, directory, name = find_place(session, process, path)
    make_change(session, UNLINK, volume, directory, name)
    remove_if_unused(session, volume, inode)


def remove_if_unused(session, volume, inode):
    """Remove a file that has no name and is not open, if there is room for that, and note it."""
    if session.handles.is_open(volume, inode) or not is_removable(session.store, volume, inode):
        return
    if remove_if_room(session.store, session.accounts, volume, inode):
        note_erased(session, volume, inode)


def rename_path(session, process, old, new):
    """Give an inode another name in place of the one that it has."""
    session.processes.look_up(process)
    change(session, ADD, rename_now, process, old, new)


def rename_now(session, process, old, new):
    """Give an inode another name, and give up what that name led to."""
    volume, root, inode = find_path(session, process, old)
    if not has_names(old):
        raise Busy()
    _, _, directory, name = find_place(session, process, old)
    other, _, target, new_name = find_place(session, process, new)
    if volume != other:
        raise CrossVolume()
    replaced, kind = find_entry(session.store, root, target, new_name) or (0, 0)
    if replaced == inode:
        return
    find_writable(session.store, volume)
    if session.processes.works_in(volume, replaced):
        raise Busy()
    # The record of a directory that is replaced is gone after the change.
    owner = read_record(session.store, root, replaced)[3] if kind == DIRECTORY else 0
    make_change(session, MOVE, volume, directory, name, target, new_name)
    if kind == DIRECTORY:
        session.accounts.add_charge(owner, -1, -1)
    if kind == FILE:
        remove_if_unused(session, volume, replaced)


def give_path(session, process, path, owner):
    """Let an inode belong to an owner."""
    check_number(owner, 0, GREATEST_OWNER)
    session.processes.look_up(process)
    change(session, ADD, give_now, process, path, owner)


def give_now(session, process, path, owner):
    """Let an inode belong to an owner, who is charged for it then."""
    volume, root, inode = find_path(session, process, path)
    find_writable(session.store, volume)
    if not session.accounts.is_registered(owner):
        raise Missing()
    before = read_record(session.store, root, inode)[3]
    if before == owner:
        return
    charge = charge_of(session.store, root, inode)
    removed, added = {before: (charge, 1)}, {owner: (charge, 1)}
    session.accounts.check_change(removed, added)
    make_change(session, GIVE, volume, inode, owner)
    session.accounts.apply_change(removed, added)
