"""Paths, and the changes of directories and links that calls ask for. Names are words here."""

from laminae.data import erase_inode
from laminae.dirs import (
    add_entry, change_entry, check_new_entry, count_entries, directory_record, drop_entry, entry_of, find_entry,
    list_entries)
from laminae.errors import BadImage, BadName, LoopFound, NotEmpty, TooMany, WrongKind
from laminae.inodes import DIRECTORY, FILE, MAX_LINKS, ROOT, add_inode, read_record, write_second
from laminae.words import name_word

MAX_NAMES = 8
MAX_DEPTH = 8


def split_path(path):
    """Return the volume that a path begins with or "", whether it begins with a volume or "/", and its names."""
    if path.startswith("@"):
        volume, slash, rest = path[1:].partition("/")
        # A volume's name that is no name, and "/" without a name behind it, are refused.
        name_word(volume)
        return (volume, True, names_in(rest) if slash == "/" else [])
    if path in ("", "/"):
        return ("", path == "/", [])
    if path.startswith("/"):
        return ("", True, names_in(path[1:]))
    return ("", False, names_in(path))


def names_in(text):
    """Return the words of names with "/" between each two."""
    names = [name_word(name) for name in text.split("/")]
    if len(names) > MAX_NAMES:
        raise BadName()
    return names


def follow(store, root, start, names):
    """Return the inode that names lead to, one after the other."""
    inode = start
    for name in names:
        inode, _ = entry_of(store, root, inode, name)
    return inode


def way_up(store, root, directory):
    """Return the inodes from a directory up to the root of its volume."""
    way = [directory]
    record = directory_record(store, root, directory)
    while way[-1] != ROOT:
        # On a disk that nobody has checked the way may lead back to itself.
        if record[1] in way:
            raise BadImage()
        way.append(record[1])
        record = directory_record(store, root, way[-1])
    return way


def depth_of(store, root, directory):
    """Return the number of steps from a directory to the root of its volume."""
    return len(way_up(store, root, directory)) - 1


def height_of(store, root, directory):
    """Return the greatest number of directories below a directory, one within the other."""
    return height_below(store, root, directory, {})


def height_below(store, root, directory, heights):
    """Return the height of a directory; `heights` has those that are known, and None for the directories above."""
    if directory not in heights:
        heights[directory] = None
        children = [inode for _, inode, kind in list_entries(store, root, directory) if kind == DIRECTORY]
        below = [1 + height_below(store, root, child, heights) for child in children]
        heights[directory] = max(below, default=0)
    # On a disk that nobody has checked a directory may be below itself.
    if heights[directory] is None:
        raise BadImage()
    return heights[directory]


def is_within(store, root, inner, outer):
    """Tell whether a directory is another one or below it."""
    return outer in way_up(store, root, inner)


def path_names(store, root, directory):
    """Return the names from the root of the volume to a directory."""
    way = way_up(store, root, directory)
    names = [name_in(store, root, parent, inode) for inode, parent in zip(way, way[1:])]
    return names[::-1]


def name_in(store, root, parent, directory):
    """Return the name of a directory in the directory that contains it."""
    names = [name for name, inode, _ in list_entries(store, root, parent) if inode == directory]
    return names[0]


def make_entry(store, root, directory, name, kind, owner):
    """Add a new file or a new empty directory; return the new root and the inode."""
    check_new_entry(store, root, directory, name)
    if kind == DIRECTORY and depth_of(store, root, directory) >= MAX_DEPTH:
        raise TooMany()
    second = directory if kind == DIRECTORY else 1
    root, inode = add_inode(store, root, kind, second, owner)
    return (add_entry(store, root, directory, name, inode, kind), inode)


def change_links(store, root, inode, by):
    """Change the number of links of a file; return the new root."""
    links = read_record(store, root, inode)[1]
    return write_second(store, root, inode, links + by)


def link_entry(store, root, inode, directory, name):
    """Add another name of a file; return the new root."""
    kind, links, _, _ = read_record(store, root, inode)
    if kind == DIRECTORY:
        raise WrongKind()
    check_new_entry(store, root, directory, name)
    if links >= MAX_LINKS:
        raise TooMany()
    root = add_entry(store, root, directory, name, inode, FILE)
    return change_links(store, root, inode, 1)


def unlink_entry(store, root, directory, name):
    """Remove a name of a file; return the new root and the inode."""
    inode, kind = entry_of(store, root, directory, name)
    if kind == DIRECTORY:
        raise WrongKind()
    root = drop_entry(store, root, directory, name)
    return (change_links(store, root, inode, -1), inode)


def remove_directory_entry(store, root, directory, name):
    """Remove an empty directory; return the new root."""
    inode, kind = entry_of(store, root, directory, name)
    if kind != DIRECTORY:
        raise WrongKind()
    if count_entries(store, root, inode) > 0:
        raise NotEmpty()
    root = drop_entry(store, root, directory, name)
    return erase_inode(store, root, inode)


def move_entry(store, root, directory, name, target, new_name):
    """Move an entry; return the new root, and the inode of the file that lost a link or 0."""
    moved, kind = entry_of(store, root, directory, name)
    replaced = find_entry(store, root, target, new_name)
    if replaced is not None and replaced[0] == moved:
        return (root, 0)
    check_move(store, root, moved, kind, target, replaced)
    if replaced is None:
        root = add_entry(store, root, target, new_name, moved, kind)
    else:
        root = give_up_replaced(store, root, replaced)
        root = change_entry(store, root, target, new_name, moved, kind)
    root = drop_entry(store, root, directory, name)
    if kind == DIRECTORY and directory != target:
        root = write_second(store, root, moved, target)
    return (root, 0 if replaced is None or kind == DIRECTORY else replaced[0])


def check_move(store, root, moved, kind, target, replaced):
    """Refuse a move that cannot be done; `replaced` is the inode and the kind of what is replaced, or None."""
    if kind == DIRECTORY and is_within(store, root, target, moved):
        raise LoopFound()
    # A target without room for another name is refused when the name is added, before anything changes.
    if replaced is not None:
        check_replaced(store, root, kind, replaced)
    if kind == DIRECTORY and depth_of(store, root, target) + 1 + height_of(store, root, moved) > MAX_DEPTH:
        raise TooMany()


def check_replaced(store, root, kind, replaced):
    """Refuse to replace an inode by one of another kind, and a directory with entries."""
    inode, replaced_kind = replaced
    if replaced_kind != kind:
        raise WrongKind()
    if kind == DIRECTORY and count_entries(store, root, inode) > 0:
        raise NotEmpty()


def give_up_replaced(store, root, replaced):
    """Take a link from a file that loses its name, or erase an empty directory; return the new root."""
    inode, kind = replaced
    if kind == DIRECTORY:
        return erase_inode(store, root, inode)
    return change_links(store, root, inode, -1)
