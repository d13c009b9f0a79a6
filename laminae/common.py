"""What the calls have in common: checks of arguments, paths of a process, and changes that may be refused."""

from laminae.dirs import directory_record
from laminae.errors import BadName, NotValid
from laminae.handles import open_file_for
from laminae.inodes import ROOT, next_inode
from laminae.intents import ERASE, MAKE, perform
from laminae.paths import follow, split_path
from laminae.procs import MAX_DESCRIPTORS
from laminae.store import attempt
from laminae.volumes import find_volume
from laminae.words import is_word, name_word


def check_number(value, least, greatest):
    """Refuse an integer outside of its bounds."""
    if not is_word(value) or not least <= value <= greatest:
        raise NotValid()


def check_descriptor(descriptor):
    """Refuse what cannot be a descriptor."""
    check_number(descriptor, 0, MAX_DESCRIPTORS - 1)


def change(session, reserve, work, *arguments):
    """Do work that may be refused, with a reserve; a refusal leaves the store as it was."""
    saved = session.prepare(reserve)
    return attempt(session.store, saved, work, session, *arguments)


def start_of(session, process, path):
    """Return the volume and the inode that a path starts at, and its names."""
    named, absolute, names = split_path(path)
    _, volume, directory = session.processes.look_up(process)
    return (volume if named == "" else named, ROOT if absolute else directory, names)


def find_path(session, process, path):
    """Return the volume of a path, the root of its tree, and the inode that the path leads to."""
    volume, start, names = start_of(session, process, path)
    root, _, _ = find_volume(session.store, volume)
    return (volume, root, follow(session.store, root, start, names))


def find_place(session, process, path):
    """Return the volume of a path, the root of its tree, the last directory on its way, and its last name."""
    volume, start, names = start_of(session, process, path)
    if names == []:
        raise BadName()
    root, _, _ = find_volume(session.store, volume)
    directory = follow(session.store, root, start, names[:-1])
    directory_record(session.store, root, directory)
    return (volume, root, directory, names[-1])


def find_open(session, process, descriptor, letter):
    """Return the volume and the inode of a descriptor's file; refuse one that is not open for this."""
    number = session.processes.find_open_file(process, descriptor)
    volume, inode, _, _ = open_file_for(session.handles, number, letter)
    return (volume, inode)


def make_change(session, kind, volume, *words):
    """Make a change of a volume, and note it."""
    intent = (kind, name_word(volume), *words)
    perform(session.store, intent)
    session.note(intent)


def note_erased(session, volume, inode):
    """Note that a file without a name was removed."""
    session.note((ERASE, name_word(volume), inode))


def make_inode(session, process, place, kind):
    """Make a file or a directory, which belongs to the owner of a process, at a place; return its inode."""
    volume, root, directory, name = place
    owner, _, _ = session.processes.look_up(process)
    session.accounts.check_charge(owner, 1, 1)
    inode = next_inode(session.store, root)
    make_change(session, MAKE, volume, directory, name, kind, owner)
    session.accounts.add_charge(owner, 1, 1)
    return inode
