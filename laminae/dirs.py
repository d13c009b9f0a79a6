"""Directories: the entries that give inodes their names. Names are words here."""

from laminae.errors import Exists, Missing, TooMany, WrongKind
from laminae.inodes import DIRECTORY, MAX_ENTRIES, read_record, write_length
from laminae.trees import items_between, look_up, put, take

ENTRY_KEY = 2


def entry_key(directory, name):
    """Return the key of an entry."""
    return (directory, ENTRY_KEY, name)


def directory_record(store, root, directory):
    """Return the record of a directory; refuse what is not one."""
    record = read_record(store, root, directory)
    if record[0] != DIRECTORY:
        raise WrongKind()
    return record


def count_entries(store, root, directory):
    """Return how many entries a directory has."""
    return directory_record(store, root, directory)[2]


def find_entry(store, root, directory, name):
    """Return the inode that a name leads to and its kind, or None."""
    directory_record(store, root, directory)
    value = look_up(store, root, entry_key(directory, name))
    return None if value is None else value[:2]


def entry_of(store, root, directory, name):
    """Return the inode that a name leads to and its kind; refuse a name that is not there."""
    entry = find_entry(store, root, directory, name)
    if entry is None:
        raise Missing()
    return entry


def check_new_entry(store, root, directory, name):
    """Refuse a name that cannot be added to a directory."""
    if find_entry(store, root, directory, name) is not None:
        raise Exists()
    if count_entries(store, root, directory) >= MAX_ENTRIES:
        raise TooMany()


def put_entry(store, root, directory, name, inode, kind):
    """Put the item of an entry; return the new root."""
    return put(store, root, entry_key(directory, name), (inode, kind, 0, 0))


def add_entry(store, root, directory, name, inode, kind):
    """Add an entry; return the new root."""
    check_new_entry(store, root, directory, name)
    many = count_entries(store, root, directory)
    root = put_entry(store, root, directory, name, inode, kind)
    return write_length(store, root, directory, many + 1)


def drop_entry(store, root, directory, name):
    """Remove an entry; return the new root."""
    entry_of(store, root, directory, name)
    many = count_entries(store, root, directory)
    root, _ = take(store, root, entry_key(directory, name))
    return write_length(store, root, directory, many - 1)


def change_entry(store, root, directory, name, inode, kind):
    """Let a name lead to another inode; return the new root."""
    entry_of(store, root, directory, name)
    return put_entry(store, root, directory, name, inode, kind)


def list_entries(store, root, directory):
    """Return the name, the inode and the kind of each entry in ascending order of the names."""
    directory_record(store, root, directory)
    items = items_between(store, root, (directory, ENTRY_KEY, 0), (directory, ENTRY_KEY + 1, 0))
    return [(key[2], value[0], value[1]) for key, value in items]
