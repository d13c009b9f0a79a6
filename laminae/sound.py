"""Walks through blocks that nobody has checked yet: they end, whatever the blocks hold.

Here `read` is a function that returns the words of the block that a pointer leads to.
"""

from laminae.errors import BadImage
from laminae.heads import FIRST_BLOCK
from laminae.nodes import LEAF, from_block, pointers
from laminae.trees import LEAST_ITEMS


def reached_pointers(read, table, blocks):
    """Return each pointer of the head and of the blocks that it reaches, with True if it leads to a node."""
    found = [(table, True)]
    roles = {}
    at = 0
    while at < len(found):
        pointer, is_node = found[at]
        number = pointer[0]
        if not FIRST_BLOCK <= number < blocks or roles.get(number, is_node) != is_node:
            raise BadImage()
        if is_node and number not in roles:
            found.extend(pointers(read(pointer)))
        roles[number] = is_node
        at += 1
    return found


def tree_items(read, root):
    """Return the items of the leaves below a root; refuse nodes that do not form a tree."""
    seen = {}
    level = [(None, root)]
    kind, items = read_level(read, level, seen)
    while kind != LEAF:
        level = items
        kind, items = read_level(read, level, seen)
    if any(items[at][0] >= items[at + 1][0] for at in range(len(items) - 1)):
        raise BadImage()
    return items


def read_level(read, level, seen):
    """Return the kind and all items of the nodes of one level of a tree.

    `level` has for each node its pointer, and the key that is written before that, or None for the root.
    """
    kinds, found = [], []
    for key, pointer in level:
        if pointer[0] in seen:
            raise BadImage()
        seen[pointer[0]] = True
        kind, items = from_block(read(pointer))
        is_lone_leaf = key is None and kind == LEAF
        if not is_lone_leaf and (len(items) < LEAST_ITEMS or key is not None and items[0][0] != key):
            raise BadImage()
        kinds.append(kind)
        found.extend(items)
    if kinds != kinds[:1] * len(kinds):
        raise BadImage()
    return (kinds[0], found)
