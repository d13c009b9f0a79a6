"""Volumes and snapshots: the trees that the table names, and those that wait to be released."""

from laminae.data import erase_inode
from laminae.errors import BadName, Busy, Exists, NotEmpty, NoVolume, ReadOnly, TooMany, WrongKind
from laminae.inodes import RECORD_KEY, all_items, list_orphans, make_tree
from laminae.nodes import DATA_KEY
from laminae.trees import items_between, look_up, put, release, take
from laminae.words import name_word, word_name

VOLUME_KEY = 4
WAITING_KEY = 6
SNAPSHOT = 0
WRITABLE = 1
MAX_VOLUMES = 8


def table_items(store, kind):
    """Return the last word of the key and the value of each item of a kind in the table, in ascending order."""
    items = items_between(store, store.table, (0, kind, 0), (0, kind + 1, 0))
    return [(key[2], value) for key, value in items]


def put_table_item(store, kind, rest, value):
    """Put an item into the table."""
    store.use_table(put(store, store.table, (0, kind, rest), value))


def take_table_item(store, kind, rest):
    """Take an item out of the table."""
    table, _ = take(store, store.table, (0, kind, rest))
    store.use_table(table)


def put_volume(store, name, root, flags, origin):
    """Put the item of a volume."""
    origin_word = 0 if origin == "" else name_word(origin)
    put_table_item(store, VOLUME_KEY, name_word(name), (*root, flags, origin_word))


def read_volume(value):
    """Return the root, whether it is writable, and the origin of the volume with this value in the table."""
    origin = "" if value[3] == 0 else word_name(value[3])
    return (value[:2], value[2] == WRITABLE, origin)


def list_volumes(store):
    """Return the name, whether it is writable, and the origin of each volume in ascending order."""
    rows = []
    for word, value in table_items(store, VOLUME_KEY):
        _, writable, origin = read_volume(value)
        rows.append((word_name(word), writable, origin))
    return rows


def find_volume(store, name):
    """Return the root of a volume, whether it is writable, and its origin."""
    try:
        word = name_word(name)
    except BadName:
        raise NoVolume()
    value = look_up(store, store.table, (0, VOLUME_KEY, word))
    if value is None:
        raise NoVolume()
    return read_volume(value)


def find_writable(store, name):
    """Return the root and the origin of a writable volume."""
    root, writable, origin = find_volume(store, name)
    if not writable:
        raise ReadOnly()
    return (root, origin)


def prepare_root(store, name):
    """Put the item of a writable volume again, before its tree is changed; return its root."""
    root, origin = find_writable(store, name)
    # The item must stand in a new leaf: copying the leaf later would count a root that was given up.
    put_volume(store, name, root, WRITABLE, origin)
    return root


def set_root(store, name, root):
    """Give a writable volume another root."""
    before, origin = find_writable(store, name)
    if root != before:
        put_volume(store, name, root, WRITABLE, origin)


def charges_in(items):
    """Return what the inodes with these items are charged: a dict from owner to a charge and a number of inodes."""
    charges = {}
    owner = 0
    for (_, kind, _), value in items:
        if kind == RECORD_KEY:
            owner = value[3]
            charge, inodes = charges.get(owner, (0, 0))
            charges[owner] = (charge + 1, inodes + 1)
        elif kind == DATA_KEY:
            # The record of a file stands ahead of its units, so this is its owner.
            charge, inodes = charges.get(owner, (0, 0))
            charges[owner] = (charge + 1, inodes)
    return charges


def count_charges(store, root):
    """Return what the inodes of a tree are charged, those without a name included."""
    return charges_in(all_items(store, root))


def count_named_charges(store, root):
    """Return what the inodes of a tree are charged, those without a name left out."""
    orphans = list_orphans(store, root)
    return charges_in([item for item in all_items(store, root) if item[0][0] not in orphans])


def share_without_orphans(store, root):
    """Return the root of a tree that begins as another one, and has no file without a name."""
    store.share(root)
    for inode in list_orphans(store, root):
        root = erase_inode(store, root, inode)
    return root


def check_new_name(store, name):
    """Refuse the name of a new volume if it is in use or there is no room for another volume."""
    names = [row[0] for row in list_volumes(store)]
    if name in names:
        raise Exists()
    if len(names) >= MAX_VOLUMES:
        raise TooMany()


def make_volume(store, accounts, name):
    """Make a writable volume with an empty root directory of owner 0."""
    name_word(name)
    check_new_name(store, name)
    root = make_tree(store, 0)
    put_volume(store, name, root, WRITABLE, "")
    if accounts is not None:
        accounts.add_charge(0, 1, 1)


def take_snapshot(store, volume, name):
    """Make a snapshot of a volume."""
    name_word(name)
    root, _, _ = find_volume(store, volume)
    check_new_name(store, name)
    store.share(root)
    put_volume(store, name, root, SNAPSHOT, volume)


def clone_snapshot(store, accounts, snapshot, name):
    """Make a writable volume from a snapshot."""
    name_word(name)
    root, writable, _ = find_volume(store, snapshot)
    if writable:
        raise WrongKind()
    check_new_name(store, name)
    added = count_named_charges(store, root)
    if accounts is not None:
        accounts.check_change({}, added)
    put_volume(store, name, share_without_orphans(store, root), WRITABLE, snapshot)
    if accounts is not None:
        accounts.apply_change({}, added)


def let_wait(store, root):
    """Let a root wait to be released."""
    serials = [serial for serial, _ in waiting_roots(store)]
    put_table_item(store, WAITING_KEY, max(serials, default=0) + 1, (*root, 0, 0))


def check_drop(store, name):
    """Return the root of a volume that can be dropped, and whether it is writable."""
    root, writable, _ = find_volume(store, name)
    volumes = list_volumes(store)
    if writable and len([row for row in volumes if row[1]]) == 1:
        raise Busy()
    if name in [origin for _, _, origin in volumes]:
        raise NotEmpty()
    return (root, writable)


def drop_volume(store, accounts, name):
    """Drop a volume; its root waits to be released then."""
    root, writable = check_drop(store, name)
    removed = count_charges(store, root) if writable else {}
    take_table_item(store, VOLUME_KEY, name_word(name))
    let_wait(store, root)
    if accounts is not None:
        accounts.apply_change(removed, {})


def roll_back(store, accounts, volume, snapshot):
    """Give a volume the tree of its snapshot; its old root waits to be released then."""
    before, writable, origin = find_volume(store, volume)
    root, other_writable, other_origin = find_volume(store, snapshot)
    if not writable:
        raise ReadOnly()
    if other_writable or other_origin != volume:
        raise WrongKind()
    removed, added = count_charges(store, before), count_named_charges(store, root)
    if accounts is not None:
        accounts.check_change(removed, added)
    put_volume(store, volume, share_without_orphans(store, root), WRITABLE, origin)
    let_wait(store, before)
    if accounts is not None:
        accounts.apply_change(removed, added)


def waiting_roots(store):
    """Return the serial and the root of each tree that waits to be released, in ascending order."""
    return [(serial, value[:2]) for serial, value in table_items(store, WAITING_KEY)]


def release_step(store):
    """Release the tree that waits with the least serial; tell whether there was one."""
    waiting = waiting_roots(store)
    if waiting == []:
        return False
    serial, root = waiting[0]
    take_table_item(store, WAITING_KEY, serial)
    release(store, root)
    return True
