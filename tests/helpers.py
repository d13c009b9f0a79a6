"""What the tests have in common. Blocks are read here without the module nodes."""

import unittest

from laminae.commits import commit as commit_store
from laminae.data import write_range
from laminae.dirs import add_entry
from laminae.disk import Disk
from laminae.errors import NoSpace
from laminae.heads import Head
from laminae.inodes import FILE, add_inode, set_owner_of
from laminae.owners import Accounts
from laminae.space import Space
from laminae.store import Store
from laminae.trees import look_up, put, take
from laminae.volumes import find_volume, make_volume, prepare_root, set_root
from laminae.words import name_word

NODE_KINDS = (4, 6)


def store_with(free_from=5, blocks=96, generation=4, reserve=0):
    """A store that makes this generation; the blocks before `free_from` are held, those after it are free."""
    disk = Disk(blocks)
    space = Space([1] * free_from + [0] * (blocks - free_from))
    store = Store(disk, Head(generation - 1, (5, 1), blocks), space)
    store.use_reserve(reserve)
    return store


def commit(store):
    """Write the new blocks of a store, and return the store of the next generation."""
    for number in store.new_blocks():
        words = store.read((number, 0))
        for at in range(4):
            store.disk.write(4 * number + at, words[8 * at:8 * at + 8])
    store.disk.flush()
    store.space.settle()
    later = Store(store.disk, Head(store.generation(), store.table, store.disk.blocks), store.space)
    later.use_reserve(store.reserve)
    return later


def state_of(store):
    """All that can be seen of a store."""
    numbers = range(store.disk.blocks)
    return (
        [store.space.uses(number) for number in numbers], [store.space.is_held(number) for number in numbers],
        [store.read((number, 1)) for number in numbers if number > 4], store.new_blocks(), store.table, store.reserve,
        store.disk.image(), store.disk.waiting())


def node_at(store, pointer):
    """The kind and the items of the node that a pointer leads to."""
    words = store.read(pointer)
    kind, many = words[0], words[1]
    size = 7 if kind == 1 else 5
    rows = [words[4 + size * at:4 + size * (at + 1)] for at in range(many)]
    assert kind in (1, 2) and many <= (4 if kind == 1 else 5), words
    assert tuple(words[2:4]) == tuple(pointer), (pointer, words)
    assert words[4 + size * many:] == [0] * (28 - size * many), words
    return kind, [(tuple(row[:3]), tuple(row[3:])) for row in rows]


def tree_at(store, pointer):
    """A tree as nested tuples: (number, keys) of a leaf, (number, [child, ..]) of an inner node."""
    kind, items = node_at(store, pointer)
    if kind == 1:
        return pointer[0], [key for key, _ in items]
    return pointer[0], [tree_at(store, child) for _, child in items]


def checked_items(store, pointer, is_root=True):
    """The items of a tree and its height, after it was compared with points [18] and [31]."""
    kind, items = node_at(store, pointer)
    assert is_root and kind == 1 or len(items) >= 2, (pointer, items)
    keys = [key for key, _ in items]
    assert all(low < high for low, high in zip(keys, keys[1:])), keys
    if kind == 1:
        return items, 1
    found, heights = [], set()
    for key, child in items:
        below, height = checked_items(store, child, False)
        assert below[0][0] == key, (key, below)
        found += below
        heights.add(height)
    assert len(heights) == 1, heights
    keys = [key for key, _ in found]
    assert all(low < high for low, high in zip(keys, keys[1:])), keys
    return found, heights.pop() + 1


def counted_uses(store, given):
    """The uses of all blocks by [22], if these pointers (each with True for a node) are what leads into the disk."""
    counts = [1] * 5 + [0] * (store.disk.blocks - 5)
    todo = list(given)
    while todo:
        pointer, is_node = todo.pop()
        counts[pointer[0]] += 1
        if is_node and counts[pointer[0]] == 1:
            kind, items = node_at(store, pointer)
            if kind == 2:
                todo += [(child, True) for _, child in items]
            else:
                todo += [(value[:2], key[1] in NODE_KINDS) for key, value in items if key[1] in (3, 4, 6)]
    return counts


def uses_of(store):
    """The uses of all blocks as the store has them."""
    return [store.space.uses(number) for number in range(store.disk.blocks)]


def fresh_store(blocks=96, reserve=0):
    """The store of a disk on which nothing lasts yet; its table is an empty tree in a new block."""
    store = Store(Disk(blocks), Head(0, (0, 0), blocks), Space([1] * 5 + [0] * (blocks - 5)))
    store.use_table(store.make([1, 0, 5, 1] + [0] * 28))
    store.use_reserve(reserve)
    return store


def fill(store, left):
    """Take blocks, whatever the reserve is, until so many are free."""
    reserve = store.reserve
    store.use_reserve(0)
    taken = [store.make([0] * 32) for _ in range(store.free() - left)]
    store.use_reserve(reserve)
    return taken


def left_by(store, change, *arguments):
    """What a change returns and what it leaves of the store, which is then made what it was before."""
    saved = store.saved()
    found = change(store, *arguments)
    after = state_of(store)
    store.restore(saved)
    return found, after


class ChangeChecks:
    """Checks of changes of a store, for test cases."""

    def assert_same_change(self, store, change, by_hand, *arguments):
        """Check that a change takes, writes and gives up the same blocks as another one; then do it."""
        expected = left_by(store, by_hand, *arguments)
        found = change(store, *arguments)
        self.assertEqual((found, state_of(store)), expected)
        return found

    def assert_refused(self, store, error, change, *arguments):
        """Check that a change raises exactly this error, and leaves the store as it was."""
        before = state_of(store)
        with self.assertRaises(error) as caught:
            change(store, *arguments)
        self.assertIs(caught.exception.__class__, error)
        self.assertEqual(state_of(store), before)

    def assert_needs_room(self, store, change, *arguments, reserves=(60, 20, 0)):
        """Check that a change raises NoSpace with each reserve until there is room, and that it can be undone."""
        saved, reserve, needs = store.saved(), store.reserve, set()
        for kept in reserves:
            store.use_reserve(kept)
            saved_space = store.saved()
            before = state_of(store)
            refused = 0
            for left in range(kept, kept + 60):
                fill(store, left)
                filled, full = store.saved(), state_of(store)
                try:
                    change(store, *arguments)
                except NoSpace:
                    refused += 1
                    store.restore(filled)
                    self.assertEqual(state_of(store), full)
                    store.restore(saved_space)
                    continue
                self.assertGreaterEqual(store.free(), kept)
                break
            else:
                self.fail("there is never room")
            needs.add(refused)
            store.restore(saved_space)
            self.assertEqual(state_of(store), before)
        self.assertEqual(len(needs), 1, needs)
        store.restore(saved)
        store.use_reserve(reserve)
        return needs.pop()


def record_of(store, root, inode):
    """The record of an inode."""
    return look_up(store, root, (inode, 1, 0))


def pointer_of(store, root, inode, unit):
    """The pointer of a unit, or None if it is absent."""
    value = look_up(store, root, (inode, 3, unit))
    return None if value is None else value[:2]


def unit_of(store, root, inode, unit):
    """The 32 cells of a unit."""
    pointer = pointer_of(store, root, inode, unit)
    return [0] * 32 if pointer is None else store.read(pointer)


def cells_of(store, root, inode):
    """All cells of a file."""
    cells = []
    for unit in range(64):
        cells += unit_of(store, root, inode, unit)
    return cells[:record_of(store, root, inode)[2]]


def replace_cells(store, root, inode, cells):
    """Let a file have these cells, unit by unit, and then its record if its length is another one."""
    kind, links, length, owner = record_of(store, root, inode)
    padded = cells + [0] * (2048 - len(cells))
    for unit in range(64):
        after = padded[32 * unit:32 * unit + 32]
        if after == unit_of(store, root, inode, unit):
            continue
        old = pointer_of(store, root, inode, unit)
        if after == [0] * 32:
            root, _ = take(store, root, (inode, 3, unit))
        else:
            new = store.make(after)
            root = put(store, root, (inode, 3, unit), (*new, 0, 0))
        if old is not None:
            store.drop(old)
    if len(cells) != length:
        root = put(store, root, (inode, 1, 0), (kind, links, len(cells), owner))
    return root


def written(cells, start, more):
    """The cells of a file after cells were written at a position."""
    if not more:
        return cells
    padded = cells + [0] * (start - len(cells))
    return padded[:start] + more + padded[start + len(more):]


def write_by_hand(store, root, inode, start, cells):
    """Write cells at a position."""
    return replace_cells(store, root, inode, written(cells_of(store, root, inode), start, cells))


def resize_by_hand(store, root, inode, length):
    """Set the length of a file."""
    cells = cells_of(store, root, inode)
    return replace_cells(store, root, inode, cells[:length] + [0] * (length - len(cells)))


def share_by_hand(store, root, source, first, target, at, units):
    """Share units of one file with another one."""
    found = [pointer_of(store, root, source, first + k) for k in range(units)]
    for pointer in found:
        if pointer is not None:
            store.share(pointer)
    for k, pointer in enumerate(found):
        old = pointer_of(store, root, target, at + k)
        if pointer is None:
            if old is not None:
                root, _ = take(store, root, (target, 3, at + k))
                store.drop(old)
        elif pointer == old:
            store.drop(pointer)
        else:
            root = put(store, root, (target, 3, at + k), (*pointer, 0, 0))
            if old is not None:
                store.drop(old)
    kind, links, length, owner = record_of(store, root, target)
    if units > 0 and length < 32 * (at + units):
        root = put(store, root, (target, 1, 0), (kind, links, 32 * (at + units), owner))
    return root


def erase_by_hand(store, root, inode):
    """Remove the units of an inode, and then its record."""
    for unit in range(64):
        pointer = pointer_of(store, root, inode, unit)
        if pointer is not None:
            root, _ = take(store, root, (inode, 3, unit))
            store.drop(pointer)
    root, _ = take(store, root, (inode, 1, 0))
    return root


def table_items(store):
    """The items of the table, read without the module volumes."""
    return checked_items(store, store.table)[0]


def set_by_hand(store, name, root):
    """Give a volume another root in the table."""
    value = dict(table_items(store))[(0, 4, name_word(name))]
    if value[:2] != root:
        store.use_table(put(store, store.table, (0, 4, name_word(name)), (*root, *value[2:])))


def changed_by_hand(store, volume, change, *given):
    """Change the tree of a volume after its root was prepared."""
    value = dict(table_items(store))[(0, 4, name_word(volume))]
    store.use_table(put(store, store.table, (0, 4, name_word(volume)), value))
    set_by_hand(store, volume, change(store, value[:2], *given))


def root_of(store, name):
    """The root of a volume, read without the module volumes."""
    return look_up(store, store.table, (0, 4, name_word(name)))[:2]


def shown(store, root):
    """What a tree shows: its items, with the cells of a unit instead of its pointer."""
    items = checked_items(store, root)[0]
    return [(key, store.read(value[:2]) if key[1] == 3 else value) for key, value in items]


def without_orphans(items):
    """The items of a tree without those of files that have no name."""
    orphans = [key[0] for key, value in items if key[1] == 1 and value[:2] == (1, 0)]
    return [item for item in items if item[0][0] not in orphans]


def charges_of(items):
    """What the items of a tree are charged: a dict from owner to a charge and a number of inodes."""
    owners = {key[0]: value[3] for key, value in items if key[1] == 1}
    charges = {}
    for key, _ in items:
        if key[1] != 2:
            charge, inodes = charges.get(owners[key[0]], (0, 0))
            charges[owners[key[0]]] = (charge + 1, inodes + (key[1] == 1))
    return charges


def usages(accounts):
    """Everything that an Accounts object shows."""
    return accounts.list_owners(), [accounts.usage(owner) for owner in range(256)]


def blocks_below(store, root):
    """A dict from each block that a tree reaches to its words."""
    found = counted_uses(store, [(root, True)])
    return {number: store.read((number, 1)) for number in range(5, store.disk.blocks) if found[number]}


class VolumeCase(ChangeChecks, unittest.TestCase):
    """A test case with a store that has volumes."""

    def start(self, blocks=256):
        """Begin with the volume main, which is empty."""
        self.store = fresh_store(blocks)
        make_volume(self.store, None, "main")
        commit_store(self.store)

    def add_file(self, volume, name=None, cells=(), owner=0):
        """Add a file to the root directory of a volume, or an orphan if there is no name; return its inode."""
        root = prepare_root(self.store, volume)
        root, inode = add_inode(self.store, root, FILE, 0 if name is None else 1, owner)
        if name is not None:
            root = add_entry(self.store, root, 1, name_word(name), inode, FILE)
        root = write_range(self.store, root, inode, 0, list(cells))
        set_root(self.store, volume, root)
        return inode

    def write(self, volume, inode, start, cells):
        """Write cells into a file."""
        root = prepare_root(self.store, volume)
        set_root(self.store, volume, write_range(self.store, root, inode, start, cells))

    def give(self, volume, inode, owner):
        """Give an inode to an owner."""
        root = prepare_root(self.store, volume)
        set_root(self.store, volume, set_owner_of(self.store, root, inode, owner))

    def shown(self, volume):
        """What a volume shows."""
        return shown(self.store, find_volume(self.store, volume)[0])

    def assert_uses(self):
        """Check the uses of all blocks, if the table is all that leads into the disk."""
        self.assertEqual(uses_of(self.store), counted_uses(self.store, [(self.store.table, True)]))

    def assert_counted(self, accounts):
        """Check that an Accounts object shows what counting again gives."""
        self.assertEqual(usages(accounts), usages(Accounts(self.store)))

    def assert_refused_with(self, accounts, error, change, *arguments):
        """Check that a change is refused, and leaves the store and the accounts as they were."""
        before = usages(accounts)
        self.assert_refused(self.store, error, change, *arguments)
        self.assertEqual(usages(accounts), before)

    def counting(self, function, *given):
        """The change of a store by a function that is passed accounts; NoSpace must leave these as they were."""
        def change(store):
            accounts = Accounts(store)
            before = usages(accounts)
            try:
                function(store, accounts, *given)
            except NoSpace:
                self.assertEqual(usages(accounts), before)
                raise
        return change
