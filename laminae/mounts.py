"""Making a disk, opening it, and the recovery after the power failed."""

from laminae.commits import commit
from laminae.disk import Disk, read_block
from laminae.errors import BadImage, LaminaError, PowerOff
from laminae.handles import recover_orphan
from laminae.heads import FIRST_BLOCK, FIRST_SECTOR, LOG_SECTORS, Head, log_mark, present_head
from laminae.intents import play_all, whole_records
from laminae.sound import reached_pointers, tree_items
from laminae.space import Space
from laminae.store import Store, attempt
from laminae.trees import empty_tree
from laminae.volumes import find_volume, list_volumes, make_volume, release_step, waiting_roots

FIRST_VOLUME = "main"
INTENTS = "intents"
ORPHANS = "orphans"
PENDING = "pending"
DONE = "done"


def first_uses(blocks):
    """Return the uses of all blocks as long as nothing leads to any of them."""
    return [1] * FIRST_BLOCK + [0] * (blocks - FIRST_BLOCK)


def make_disk(blocks):
    """Return a new disk with one empty volume."""
    disk = Disk(blocks)
    store = Store(disk, Head(0, (0, 0), blocks), Space(first_uses(blocks)))
    store.use_table(empty_tree(store))
    make_volume(store, None, FIRST_VOLUME)
    commit(store)
    return disk


def count_uses(disk, head):
    """Return the uses of all blocks of a disk with this present head."""
    uses = first_uses(disk.blocks)
    for (number, _), _ in reached_pointers(lambda pointer: read_block(disk, pointer[0]), head.table, disk.blocks):
        uses[number] += 1
    return uses


def open_disk(disk):
    """Return the store of a disk, without recovery."""
    head = present_head(disk)
    return Store(disk, head, Space(count_uses(disk, head)))


def play_log(store):
    """Play the whole records that were written since the last commit."""
    sectors = [store.disk.read(FIRST_SECTOR + at) for at in range(LOG_SECTORS)]
    play_all(store, whole_records(sectors, store.head.generation))


def release_waiting(store):
    """Release the first root that waits; tell whether there was one. The reserve is 0 for this."""
    reserve = store.reserve
    store.use_reserve(0)
    try:
        return release_step(store)
    finally:
        store.reserve = reserve


def change_by_step(store):
    """Do the first thing that recovery has to do, without the commit; return its word."""
    if log_mark(store.disk) == store.head.generation:
        play_log(store)
        return INTENTS
    if recover_orphan(store):
        return ORPHANS
    if release_waiting(store):
        return PENDING
    return DONE


def recovery_step(store):
    """Do one step of recovery, and return its word."""
    try:
        word = attempt(store, store.saved(), change_by_step, store)
    except PowerOff:
        raise
    except LaminaError:
        raise BadImage()
    if word != DONE:
        commit(store)
    return word


def check_trees(store):
    """Refuse a disk whose trees are none; recovery relies on them."""
    def read(pointer):
        """Return the words of a block."""
        return store.read(pointer)
    tree_items(read, store.table)
    roots = [root for _, root in waiting_roots(store)]
    for name, _, _ in list_volumes(store):
        root, _, _ = find_volume(store, name)
        roots.append(root)
    for root in roots:
        tree_items(read, root)


def mount(disk):
    """Open a disk, do all that recovery has to do, and return the store."""
    store = open_disk(disk)
    check_trees(store)
    word = recovery_step(store)
    while word != DONE:
        word = recovery_step(store)
    return store
