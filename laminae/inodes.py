"""Inodes: the records of files and directories in the tree of a volume."""

from laminae.errors import Missing
from laminae.nodes import DATA_KEY
from laminae.trees import empty_tree, items_between, last_item, look_up, put

FILE = 1
DIRECTORY = 2
ROOT = 1
MAX_LINKS = 60
MAX_ENTRIES = 100
RECORD_KEY = 1


def record_key(inode):
    """Return the key of the record of an inode."""
    return (inode, RECORD_KEY, 0)


def make_tree(store, owner):
    """Make the tree of a new volume, and return its root."""
    return write_record(store, empty_tree(store), ROOT, (DIRECTORY, ROOT, 0, owner))


def read_record(store, root, inode):
    """Return the record of an inode: its kind, second word, length and owner."""
    record = look_up(store, root, record_key(inode))
    if record is None:
        raise Missing()
    return record


def write_record(store, root, inode, record):
    """Write the record of an inode, which may be new; return the new root."""
    return put(store, root, record_key(inode), record)


def write_second(store, root, inode, second):
    """Write another second word into the record of an inode; return the new root."""
    kind, _, length, owner = read_record(store, root, inode)
    return write_record(store, root, inode, (kind, second, length, owner))


def write_length(store, root, inode, length):
    """Write another length into the record of an inode; return the new root."""
    kind, second, _, owner = read_record(store, root, inode)
    return write_record(store, root, inode, (kind, second, length, owner))


def set_owner_of(store, root, inode, owner):
    """Let an inode belong to an owner; return the new root."""
    kind, second, length, _ = read_record(store, root, inode)
    return write_record(store, root, inode, (kind, second, length, owner))


def next_inode(store, root):
    """Return the number that a new inode gets."""
    item = last_item(store, root)
    # Each item has the inode of a record, so the last one has the greatest inode.
    return 1 if item is None else item[0][0] + 1


def add_inode(store, root, kind, second, owner):
    """Add a record with the length 0; return the new root and the inode."""
    inode = next_inode(store, root)
    return (write_record(store, root, inode, (kind, second, 0, owner)), inode)


def all_items(store, root):
    """Return all items of the tree of a volume in ascending order."""
    return items_between(store, root, (0, 0, 0), (next_inode(store, root), 0, 0))


def list_inodes(store, root):
    """Return each inode with its record in ascending order."""
    return [(key[0], value) for key, value in all_items(store, root) if key == record_key(key[0])]


def list_orphans(store, root):
    """Return the files without a name in ascending order."""
    return [inode for inode, record in list_inodes(store, root) if record[0] == FILE and record[1] == 0]


def charge_of(store, root, inode):
    """Return what an inode is charged: one, and one for each unit that is present."""
    read_record(store, root, inode)
    return 1 + len(items_between(store, root, (inode, DATA_KEY, 0), (inode, DATA_KEY + 1, 0)))
