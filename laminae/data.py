"""Data of files: the cells of a file, in units of one block each. Units that have only zeros have no block."""

from laminae.errors import TooLong, WrongKind
from laminae.inodes import DIRECTORY, read_record, record_key, write_length
from laminae.nodes import DATA_KEY
from laminae.trees import items_between, put, take

UNIT = 32
MAX_CELLS = 2048
MAX_UNITS = 64


def unit_key(inode, unit):
    """Return the key of a unit."""
    return (inode, DATA_KEY, unit)


def file_length(store, root, inode):
    """Return how many cells a file has; refuse what is not a file."""
    kind, _, length, _ = read_record(store, root, inode)
    if kind == DIRECTORY:
        raise WrongKind()
    return length


def units_up_to(length):
    """Return how many units so many cells take."""
    return (length + UNIT - 1) // UNIT


def unit_pointers(store, root, inode, low, high):
    """Return a dict from each present unit, from `low` to `high` - 1, to the pointer of its block."""
    items = items_between(store, root, unit_key(inode, low), unit_key(inode, high))
    return {key[2]: value[:2] for key, value in items}


def all_units(store, root, inode):
    """Return a dict from each present unit of an inode to the pointer of its block, in ascending order."""
    return unit_pointers(store, root, inode, 0, MAX_UNITS)


def cells_of_units(store, present, low, high):
    """Return the cells of the units from `low` to `high` - 1 with these pointers of the present ones."""
    cells = []
    for unit in range(low, high):
        cells.extend(store.read(present[unit]) if unit in present else [0] * UNIT)
    return cells


def set_unit(store, root, inode, unit, old, new):
    """Let a unit have the block `new` instead of `old`; return the new root.

    Both are pointers, or None where the unit is absent. The use of the new block is counted already.
    """
    if new is None and old is not None:
        root, _ = take(store, root, unit_key(inode, unit))
    elif new != old:
        root = put(store, root, unit_key(inode, unit), (*new, 0, 0))
    # If both are the same block, the use that was counted for the new one is given up.
    if old is not None:
        store.drop(old)
    return root


def change_units(store, root, inode, changes):
    """Give units other cells; return the new root."""
    for unit, old, cells in changes:
        new = store.make(cells) if any(cells) else None
        root = set_unit(store, root, inode, unit, old, new)
    return root


def read_range(store, root, inode, start, count):
    """Return the cells from a position on, at most `count`."""
    end = min(start + count, file_length(store, root, inode))
    if end <= start:
        return []
    low, high = start // UNIT, units_up_to(end)
    cells = cells_of_units(store, unit_pointers(store, root, inode, low, high), low, high)
    return cells[start - UNIT * low:end - UNIT * low]


def written_units(store, root, inode, start, cells):
    """Return (unit, pointer of its block or None, cells afterwards) for each unit that these cells change."""
    low, high = start // UNIT, units_up_to(start + len(cells))
    present = unit_pointers(store, root, inode, low, high)
    before = cells_of_units(store, present, low, high)
    first = start - UNIT * low
    after = before[:first] + cells + before[first + len(cells):]
    changes = []
    for unit in range(low, high):
        begin = UNIT * (unit - low)
        end = begin + UNIT
        if after[begin:end] != before[begin:end]:
            changes.append((unit, present.get(unit), after[begin:end]))
    return changes


def check_write(store, root, inode, start, cells):
    """Return the length of a file after a write; refuse a file that would be too long."""
    before = file_length(store, root, inode)
    if cells == []:
        return before
    if start + len(cells) > MAX_CELLS:
        raise TooLong()
    return max(before, start + len(cells))


def write_range(store, root, inode, start, cells):
    """Replace the cells at a position; return the new root."""
    length = check_write(store, root, inode, start, cells)
    root = change_units(store, root, inode, written_units(store, root, inode, start, cells))
    return with_length(store, root, inode, length)


def with_length(store, root, inode, length):
    """Write the record of a file if its length changes; return the root."""
    if file_length(store, root, inode) == length:
        return root
    return write_length(store, root, inode, length)


def cut_units(store, root, inode, length):
    """Return (unit, pointer of its block, cells afterwards) for each unit that a new length of the file changes."""
    present = unit_pointers(store, root, inode, length // UNIT, MAX_UNITS)
    changes = []
    for unit, pointer in present.items():
        before = store.read(pointer)
        kept = max(length - UNIT * unit, 0)
        after = before[:kept] + [0] * (UNIT - kept)
        if after != before:
            changes.append((unit, pointer, after))
    return changes


def set_length(store, root, inode, length):
    """Remove the cells behind a length, or add cells that are 0; return the new root."""
    file_length(store, root, inode)
    if length > MAX_CELLS:
        raise TooLong()
    root = change_units(store, root, inode, cut_units(store, root, inode, length))
    return with_length(store, root, inode, length)


def check_share(store, root, source, target, at, units):
    """Return the length of the target after units are shared; refuse a file that would be too long."""
    file_length(store, root, source)
    before = file_length(store, root, target)
    if units == 0:
        return before
    if at + units > MAX_UNITS:
        raise TooLong()
    return max(before, UNIT * (at + units))


def shared_units(store, root, source, first, target, at, units):
    """Return (unit of the target, pointer that it has or None, pointer that it gets or None) for each unit."""
    given = unit_pointers(store, root, source, first, first + units)
    present = unit_pointers(store, root, target, at, at + units)
    return [(at + k, present.get(at + k), given.get(first + k)) for k in range(units)]


def share_range(store, root, source, first, target, at, units):
    """Let units of a file be units of another one, or of the same one, too; return the new root."""
    length = check_share(store, root, source, target, at, units)
    changes = shared_units(store, root, source, first, target, at, units)
    # All blocks are counted first: none of them may lose its last use when a unit of the same file is replaced.
    for _, _, new in changes:
        if new is not None:
            store.share(new)
    for unit, old, new in changes:
        root = set_unit(store, root, target, unit, old, new)
    return with_length(store, root, target, length)


def units_after_share(store, root, source, first, target, at, units):
    """Return how many units the target of a share has afterwards."""
    check_share(store, root, source, target, at, units)
    changes = shared_units(store, root, source, first, target, at, units)
    gained = len([new for _, _, new in changes if new is not None])
    lost = len([old for _, old, _ in changes if old is not None])
    return len(all_units(store, root, target)) + gained - lost


def units_after_write(store, root, inode, start, cells):
    """Return how many units a file has after a write."""
    check_write(store, root, inode, start, cells)
    changes = written_units(store, root, inode, start, cells)
    gained = len([after for _, _, after in changes if any(after)])
    lost = len([old for _, old, _ in changes if old is not None])
    return len(all_units(store, root, inode)) + gained - lost


def list_units(store, root, inode):
    """Return each present unit of a file with its cells in ascending order."""
    file_length(store, root, inode)
    present = all_units(store, root, inode)
    return [(unit, store.read(pointer)) for unit, pointer in present.items()]


def count_units(store, root, inode):
    """Return how many units of a file are present."""
    file_length(store, root, inode)
    return len(all_units(store, root, inode))


def erase_inode(store, root, inode):
    """Remove all units of an inode and then its record; return the new root."""
    read_record(store, root, inode)
    present = all_units(store, root, inode)
    for unit, pointer in present.items():
        root = set_unit(store, root, inode, unit, pointer, None)
    root, _ = take(store, root, record_key(inode))
    return root
