"""The calls that work on files and on what is known of them."""

from laminae.common import (
    change, check_descriptor, check_number, find_open, find_path, find_place, make_change, make_inode, note_erased)
from laminae.data import MAX_CELLS, MAX_UNITS, count_units, units_after_share
from laminae.dirs import find_entry, list_entries
from laminae.errors import CrossVolume, Exists, Missing, NotValid, TooMany, WrongKind
from laminae.handles import read_open_file, resize_file, write_open_file
from laminae.inodes import DIRECTORY, FILE, charge_of, read_record
from laminae.intents import RESIZE, SHARE, WRITE
from laminae.procs import close_descriptor
from laminae.space import ADD, REMOVE
from laminae.volumes import find_volume, find_writable
from laminae.words import are_words, name_word, word_name

MODE_LETTERS = "rwamnc"
KEPT_LETTERS = "rwa"


def is_mode(mode):
    """Tell whether a value is a mode in which a file can be opened."""
    if not isinstance(mode, str) or any(letter not in MODE_LETTERS or mode.count(letter) > 1 for letter in mode):
        return False
    if "n" in mode and "m" not in mode:
        return False
    return "w" in mode or "r" in mode and not any(letter in mode for letter in "amc")


def open_file(session, process, path, mode):
    """Open a file, and return its descriptor."""
    if not is_mode(mode):
        raise NotValid()
    session.processes.look_up(process)
    if "m" in mode or "c" in mode:
        return change(session, ADD, open_at, process, path, mode)
    return open_at(session, process, path, mode)


def open_at(session, process, path, mode):
    """Open the file at a path, which is made or cut if the mode says so; return its descriptor."""
    place = find_place(session, process, path)
    volume, root, directory, name = place
    entry = find_entry(session.store, root, directory, name)
    check_opened(entry, mode)
    if "w" in mode:
        find_writable(session.store, volume)
    if not session.processes.has_room(process):
        raise TooMany()
    if entry is None:
        inode = make_inode(session, process, place, FILE)
    else:
        inode, _ = entry
        if "c" in mode:
            set_length_of(session, volume, inode, 0)
    kept = "".join([letter for letter in KEPT_LETTERS if letter in mode])
    return session.processes.add_descriptor(process, session.handles.add_open_file(volume, inode, kept))


def check_opened(entry, mode):
    """Refuse an entry, or None if there is none, that cannot be opened in a mode."""
    if entry is None:
        if "m" not in mode:
            raise Missing()
        return
    if "n" in mode:
        raise Exists()
    if entry[1] == DIRECTORY:
        raise WrongKind()


def close_file(session, process, descriptor):
    """Close a descriptor."""
    check_descriptor(descriptor)
    session.processes.look_up(process)
    change(session, REMOVE, close_now, process, descriptor)


def close_now(session, process, descriptor):
    """Close a descriptor, and note the removal of its file."""
    removed = close_descriptor(
        session.store, session.accounts, session.handles, session.processes, process, descriptor)
    if removed is not None:
        note_erased(session, *removed)


def read_cells(session, process, descriptor, count):
    """Return the cells of a file from the position on."""
    check_descriptor(descriptor)
    check_number(count, 0, MAX_CELLS)
    number = session.processes.find_open_file(process, descriptor)
    return read_open_file(session.store, session.handles, number, count)


def write_cells(session, process, descriptor, cells):
    """Write cells into a file, and return how many they are."""
    check_descriptor(descriptor)
    if not isinstance(cells, list) or len(cells) > MAX_CELLS or not are_words(cells, len(cells)):
        raise NotValid()
    session.processes.look_up(process)
    return change(session, ADD, write_now, process, descriptor, cells)


def write_now(session, process, descriptor, cells):
    """Write cells into a file, and note that."""
    number = session.processes.find_open_file(process, descriptor)
    many = write_open_file(session.store, session.accounts, session.handles, number, cells)
    if many > 0:
        volume, inode, _, position = session.handles.look_up(number)
        session.note((WRITE, name_word(volume), inode, position - many, *cells))
    return many


def move_to(session, process, descriptor, position):
    """Set the position of an open file."""
    check_descriptor(descriptor)
    check_number(position, 0, MAX_CELLS)
    session.handles.move_to(session.processes.find_open_file(process, descriptor), position)


def resize(session, process, descriptor, length):
    """Set the length of an open file."""
    check_descriptor(descriptor)
    check_number(length, 0, MAX_CELLS)
    session.processes.look_up(process)
    change(session, REMOVE, resize_now, process, descriptor, length)


def resize_now(session, process, descriptor, length):
    """Set the length of an open file."""
    volume, inode = find_open(session, process, descriptor, "w")
    set_length_of(session, volume, inode, length)


def set_length_of(session, volume, inode, length):
    """Set the length of a file, and note that if it is a change."""
    if resize_file(session.store, session.accounts, volume, inode, length):
        session.note((RESIZE, name_word(volume), inode, length))


def share_units(session, process, source, first, target, at, units):
    """Make units of an open file also units of another open file."""
    check_descriptor(source)
    check_number(first, 0, MAX_UNITS - 1)
    check_descriptor(target)
    check_number(at, 0, MAX_UNITS - 1)
    check_number(units, 1, MAX_UNITS - max(first, at))
    session.processes.look_up(process)
    change(session, ADD, share_now, process, source, first, target, at, units)


def share_now(session, process, source, first, target, at, units):
    """Make units of an open file also units of another open file, and note that."""
    volume, giver = find_open(session, process, source, "r")
    other, taker = find_open(session, process, target, "w")
    if volume != other:
        raise CrossVolume()
    store = session.store
    root, _, _ = find_volume(store, volume)
    owner = read_record(store, root, taker)[3]
    more = units_after_share(store, root, giver, first, taker, at, units) - count_units(store, root, taker)
    session.accounts.check_charge(owner, more, 0)
    make_change(session, SHARE, volume, giver, first, taker, at, units)
    session.accounts.add_charge(owner, more, 0)


def description(store, volume, inode):
    """Return what is known of an inode."""
    root, _, _ = find_volume(store, volume)
    kind, second, length, owner = read_record(store, root, inode)
    links = 1 if kind == DIRECTORY else second
    return (volume, inode, kind, links, length, owner, charge_of(store, root, inode))


def describe(session, process, path):
    """Return what is known of the inode that a path leads to."""
    session.processes.look_up(process)
    volume, _, inode = find_path(session, process, path)
    return description(session.store, volume, inode)


def describe_open(session, process, descriptor):
    """Return what is known of the file that a descriptor names."""
    check_descriptor(descriptor)
    number = session.processes.find_open_file(process, descriptor)
    volume, inode, _, _ = session.handles.look_up(number)
    return description(session.store, volume, inode)


def list_directory(session, process, path):
    """Return the name, the inode and the kind of each entry of a directory."""
    session.processes.look_up(process)
    _, root, inode = find_path(session, process, path)
    return [(word_name(name), found, kind) for name, found, kind in list_entries(session.store, root, inode)]
