"""What the tests of stores and trees have in common. Blocks are read here without the module nodes."""

from laminae.disk import Disk
from laminae.heads import Head
from laminae.space import Space
from laminae.store import Store

NODE_KINDS = (4, 6)


def store_with(free_from=5, blocks=96, generation=4, reserve=0):
    """A store that makes this generation; the blocks before `free_from` are held, those after it are free."""
    disk = Disk(blocks)
    space = Space([1] * free_from + [0] * (blocks - free_from))
    store = Store(disk, Head(generation - 1, (5, 1), blocks), space)
    store.use_reserve(reserve)
    return store


def commit(store):
    """Write the new blocks of a store, and return the store of the next generation."""
    for number in store.new_blocks():
        words = store.read((number, 0))
        for at in range(4):
            store.disk.write(4 * number + at, words[8 * at:8 * at + 8])
    store.disk.flush()
    store.space.settle()
    later = Store(store.disk, Head(store.generation(), store.table, store.disk.blocks), store.space)
    later.use_reserve(store.reserve)
    return later


def state_of(store):
    """All that can be seen of a store."""
    numbers = range(store.disk.blocks)
    return (
        [store.space.uses(number) for number in numbers], [store.space.is_held(number) for number in numbers],
        [store.read((number, 1)) for number in numbers if number > 4], store.new_blocks(), store.table, store.reserve,
        store.disk.image(), store.disk.waiting())


def node_at(store, pointer):
    """The kind and the items of the node that a pointer leads to."""
    words = store.read(pointer)
    kind, many = words[0], words[1]
    size = 7 if kind == 1 else 5
    rows = [words[4 + size * at:4 + size * (at + 1)] for at in range(many)]
    assert kind in (1, 2) and many <= (4 if kind == 1 else 5), words
    assert tuple(words[2:4]) == tuple(pointer), (pointer, words)
    assert words[4 + size * many:] == [0] * (28 - size * many), words
    return kind, [(tuple(row[:3]), tuple(row[3:])) for row in rows]


def tree_at(store, pointer):
    """A tree as nested tuples: (number, keys) of a leaf, (number, [child, ..]) of an inner node."""
    kind, items = node_at(store, pointer)
    if kind == 1:
        return pointer[0], [key for key, _ in items]
    return pointer[0], [tree_at(store, child) for _, child in items]


def checked_items(store, pointer, is_root=True):
    """The items of a tree and its height, after it was compared with points [18] and [31]."""
    kind, items = node_at(store, pointer)
    assert is_root and kind == 1 or len(items) >= 2, (pointer, items)
    keys = [key for key, _ in items]
    assert all(low < high for low, high in zip(keys, keys[1:])), keys
    if kind == 1:
        return items, 1
    found, heights = [], set()
    for key, child in items:
        below, height = checked_items(store, child, False)
        assert below[0][0] == key, (key, below)
        found += below
        heights.add(height)
    assert len(heights) == 1, heights
    keys = [key for key, _ in found]
    assert all(low < high for low, high in zip(keys, keys[1:])), keys
    return found, heights.pop() + 1


def counted_uses(store, given):
    """The uses of all blocks by [22], if these pointers (each with True for a node) are what leads into the disk."""
    counts = [1] * 5 + [0] * (store.disk.blocks - 5)
    todo = list(given)
    while todo:
        pointer, is_node = todo.pop()
        counts[pointer[0]] += 1
        if is_node and counts[pointer[0]] == 1:
            kind, items = node_at(store, pointer)
            if kind == 2:
                todo += [(child, True) for _, child in items]
            else:
                todo += [(value[:2], key[1] in NODE_KINDS) for key, value in items if key[1] in (3, 4, 6)]
    return counts


def uses_of(store):
    """The uses of all blocks as the store has them."""
    return [store.space.uses(number) for number in range(store.disk.blocks)]
