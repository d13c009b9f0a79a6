"""Open files, and the files without a name that exist as long as they are open."""

from laminae.data import (
    MAX_CELLS, count_units, erase_inode, file_length, read_range, set_length, units_after_write, write_range)
from laminae.errors import BadHandle, Busy, NoSpace, NotValid
from laminae.inodes import FILE, charge_of, list_orphans, read_record
from laminae.space import REMOVE
from laminae.volumes import find_volume, find_writable, list_volumes, prepare_root, set_root
from laminae.words import is_word


class Handles:
    """The open files: for each number a volume, an inode, a mode, a position and a number of references."""

    def __init__(self):
        """Begin without open files."""
        self._files = {}

    def open_files(self):
        """Return each open file with its number in ascending order."""
        return [(number, *self._files[number]) for number in sorted(self._files)]

    def add_open_file(self, volume, inode, mode):
        """Open a file, and return its number."""
        number = 0
        while number in self._files:
            number += 1
        self._files[number] = (volume, inode, mode, 0, 1)
        return number

    def look_up(self, number):
        """Return the volume, the inode, the mode and the position of an open file."""
        return self._found(number)[:4]

    def move_to(self, number, position):
        """Set the position of an open file."""
        volume, inode, mode, _, references = self._found(number)
        if not is_word(position) or position > MAX_CELLS:
            raise NotValid()
        self._files[number] = (volume, inode, mode, position, references)

    def add_reference(self, number):
        """Add a reference to an open file."""
        volume, inode, mode, position, references = self._found(number)
        self._files[number] = (volume, inode, mode, position, references + 1)

    def drop_reference(self, number):
        """Take a reference; return the volume and the inode if this file is not open any more, otherwise None."""
        volume, inode, mode, position, references = self._found(number)
        if references > 1:
            self._files[number] = (volume, inode, mode, position, references - 1)
        else:
            del self._files[number]
        return None if self.is_open(volume, inode) else (volume, inode)

    def is_last_reference(self, number):
        """Tell whether the file is not open any more after a reference to this open file is taken."""
        volume, inode, _, _, _ = self._found(number)
        return sum(row[4] for row in self._files.values() if row[:2] == (volume, inode)) == 1

    def saved(self):
        """Return all open files as a plain value."""
        return dict(self._files)

    def restore(self, saved):
        """Make the open files what they were when this value was returned."""
        self._files = dict(saved)

    def is_open(self, volume, inode):
        """Tell whether a file of this volume and inode is open."""
        return any(row[:2] == (volume, inode) for row in self._files.values())

    def uses_volume(self, volume):
        """Tell whether a file of this volume is open."""
        return any(row[0] == volume for row in self._files.values())

    def _found(self, number):
        """Return all that is kept of an open file."""
        if number not in self._files:
            raise BadHandle()
        return self._files[number]


def find_orphans(store, volume):
    """Return the files without a name in a volume in ascending order."""
    root, _, _ = find_volume(store, volume)
    return list_orphans(store, root)


def is_orphan(record):
    """Tell whether this is the record of a file without a name."""
    kind, links, _, _ = record
    return kind == FILE and links == 0


def check_orphan(store, root, inode):
    """Return the owner of a file without a name; refuse another inode."""
    record = read_record(store, root, inode)
    if not is_orphan(record):
        raise Busy()
    return record[3]


def remove_orphan(store, accounts, volume, inode):
    """Remove a file without a name from a writable volume, and return its charge to the accounts."""
    root, _ = find_writable(store, volume)
    owner = check_orphan(store, root, inode)
    charge = charge_of(store, root, inode)
    root = prepare_root(store, volume)
    set_root(store, volume, erase_inode(store, root, inode))
    if accounts is not None:
        accounts.add_charge(owner, -charge, -1)


def remove_if_room(store, accounts, volume, inode):
    """Remove a file without a name if there is enough room; tell whether there was."""
    reserve, saved = store.reserve, store.saved()
    store.use_reserve(REMOVE)
    try:
        remove_orphan(store, accounts, volume, inode)
        return True
    except NoSpace:
        store.restore(saved)
        return False
    finally:
        store.reserve = reserve


def recover_orphan(store):
    """Remove the first file without a name for whose removal there is room; tell whether there was one."""
    for name, writable, _ in list_volumes(store):
        orphans = find_orphans(store, name) if writable else []
        for inode in orphans:
            if remove_if_room(store, None, name, inode):
                return True
    return False


def is_removable(store, volume, inode):
    """Tell whether an inode is a file without a name in a writable volume."""
    root, writable, _ = find_volume(store, volume)
    return writable and is_orphan(read_record(store, root, inode))


def close_open_file(store, accounts, handles, number):
    """Take a reference; return the volume and the inode if an inode was removed with the last one, otherwise None."""
    volume, inode, _, _ = handles.look_up(number)
    # The reference is taken last: without power the file stays open.
    removed = (
        handles.is_last_reference(number) and is_removable(store, volume, inode)
        and remove_if_room(store, accounts, volume, inode))
    handles.drop_reference(number)
    return (volume, inode) if removed else None


def open_file_for(handles, number, letter):
    """Return the volume, the inode, the mode and the position of an open file; refuse one without this mode."""
    found = handles.look_up(number)
    if letter not in found[2]:
        raise BadHandle()
    return found


def read_open_file(store, handles, number, count):
    """Return the cells from the position on, at most `count`, and move behind them."""
    volume, inode, _, position = open_file_for(handles, number, "r")
    root, _, _ = find_volume(store, volume)
    cells = read_range(store, root, inode, position, count)
    handles.move_to(number, position + len(cells))
    return cells


def write_open_file(store, accounts, handles, number, cells):
    """Write cells at the position or at the end of the file, and move behind them; return how many they are."""
    volume, inode, mode, position = open_file_for(handles, number, "w")
    if cells == []:
        return 0
    root, _, _ = find_volume(store, volume)
    start = file_length(store, root, inode) if "a" in mode else position
    more = units_after_write(store, root, inode, start, cells) - count_units(store, root, inode)
    owner = read_record(store, root, inode)[3]
    accounts.check_charge(owner, more, 0)
    root = prepare_root(store, volume)
    set_root(store, volume, write_range(store, root, inode, start, cells))
    accounts.add_charge(owner, more, 0)
    handles.move_to(number, start + len(cells))
    return len(cells)


def resize_open_file(store, accounts, handles, number, length):
    """Set the length of an open file."""
    volume, inode, _, _ = open_file_for(handles, number, "w")
    resize_file(store, accounts, volume, inode, length)


def resize_file(store, accounts, volume, inode, length):
    """Set the length of a file of a writable volume; tell whether that is a change."""
    root, _, _ = find_volume(store, volume)
    if file_length(store, root, inode) == length:
        return False
    before = count_units(store, root, inode)
    owner = read_record(store, root, inode)[3]
    root = set_length(store, prepare_root(store, volume), inode, length)
    set_root(store, volume, root)
    accounts.add_charge(owner, count_units(store, root, inode) - before, 0)
    return True
