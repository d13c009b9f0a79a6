"""Trees of nodes in a store: a change copies each node that is not new, and leaves the others as they are."""

from laminae.nodes import INNER, LEAF, child_of, from_block, most_items, place_of, pointers, split_items, to_block

LEAST_ITEMS = 2


def read_node(store, pointer):
    """Return the kind and the items of a node."""
    return from_block(store.read(pointer))


def make_node(store, kind, items):
    """Write a node into a new block, and return its pointer."""
    return store.make(to_block(kind, items, store.next_pointer()))


def write_node(store, kind, items, pointer):
    """Write a new node in its place, and return the inner item that leads to it."""
    store.write(pointer, to_block(kind, items, pointer))
    return inner_item(items, pointer)


def inner_item(items, pointer):
    """Return the inner item that leads to a node with these items."""
    return (items[0][0], pointer)


def own_node(store, pointer):
    """Return the pointer of a node that may be changed: this one if it is new, otherwise its copy."""
    if store.is_new(pointer):
        return pointer
    kind, items = read_node(store, pointer)
    fresh = make_node(store, kind, items)
    # The pointers in the copy are counted first: what both nodes lead to must not lose its last use.
    for inner, _ in pointers(store.read(fresh)):
        store.share(inner)
    release_pointer(store, pointer, True)
    return fresh


def empty_tree(store):
    """Make an empty tree, and return its root."""
    return make_node(store, LEAF, [])


def has_key_at(items, at, key):
    """Tell whether there is an item at this index, and it has the key."""
    return at < len(items) and items[at][0] == key


def look_up(store, root, key):
    """Return the value of the key, or None."""
    kind, items = read_node(store, root)
    while kind == INNER:
        kind, items = read_node(store, items[child_of(items, key)][1])
    at = place_of(items, key)
    return items[at][1] if has_key_at(items, at, key) else None


def put(store, root, key, value):
    """Put an item into the tree, and return its root."""
    parts = put_below(store, root, key, value)
    if len(parts) == 1:
        return parts[0][1]
    return make_node(store, INNER, parts)


def put_below(store, pointer, key, value):
    """Put an item below a node, and return the inner items that lead to the node and to what was split off."""
    own = own_node(store, pointer)
    kind, items = read_node(store, own)
    if kind == LEAF:
        at = place_of(items, key)
        end = at + 1 if has_key_at(items, at, key) else at
        items[at:end] = [(key, value)]
    else:
        at = child_of(items, key)
        items[at:at + 1] = put_below(store, items[at][1], key, value)
    return write_split(store, kind, items, own)


def write_split(store, kind, items, pointer):
    """Write items into their node, and what is too much into a new one; return the inner items that lead there."""
    parts = split_items(items, most_items(kind))
    written = [write_node(store, kind, parts[0], pointer)]
    for part in parts[1:]:
        written.append(inner_item(part, make_node(store, kind, part)))
    return written


def take(store, root, key):
    """Take an item out of the tree; return its root, and the value that the key had or None."""
    value = look_up(store, root, key)
    if value is None:
        return (root, None)
    return (without_old_roots(store, take_below(store, root, key)), value)


def take_below(store, pointer, key):
    """Take the item with this key from below a node, and return the node's pointer."""
    own = own_node(store, pointer)
    kind, items = read_node(store, own)
    if kind == LEAF:
        del items[place_of(items, key)]
    else:
        at = child_of(items, key)
        items = with_child(store, items, at, take_below(store, items[at][1], key))
    store.write(own, to_block(kind, items, own))
    return own


def with_child(store, items, at, child):
    """Return the inner items after the child at this index was changed, which may have left it too small."""
    _, child_items = read_node(store, child)
    changed = items[:at] + [inner_item(child_items, child)] + items[at + 1:]
    if len(child_items) < LEAST_ITEMS:
        return join_children(store, changed, max(at - 1, 0))
    return changed


def join_children(store, items, at):
    """Return the inner items after the children at this index and the next one were joined."""
    first = own_node(store, items[at][1])
    second = own_node(store, items[at + 1][1])
    kind, first_items = read_node(store, first)
    _, second_items = read_node(store, second)
    parts = split_items(first_items + second_items, most_items(kind))
    joined = [write_node(store, kind, parts[0], first)]
    if len(parts) == 1:
        # The pointers in the second node have moved, so its block alone is given up.
        store.drop(second)
    else:
        joined.append(write_node(store, kind, parts[1], second))
    return items[:at] + joined + items[at + 2:]


def without_old_roots(store, root):
    """Return the root after each root that is an inner node with one child was given up."""
    kind, items = read_node(store, root)
    while kind == INNER and len(items) == 1:
        # The pointer to the child is kept, so the block alone is given up.
        store.drop(root)
        root = items[0][1]
        kind, items = read_node(store, root)
    return root


def next_item(store, root, key):
    """Return the item with the least key that is not less than this one, or None."""
    kind, items = read_node(store, root)
    if kind == LEAF:
        at = place_of(items, key)
        return items[at] if at < len(items) else None
    at = child_of(items, key)
    found = next_item(store, items[at][1], key)
    if found is None and at + 1 < len(items):
        return next_item(store, items[at + 1][1], key)
    return found


def last_item(store, root):
    """Return the item with the greatest key, or None."""
    kind, items = read_node(store, root)
    while kind == INNER:
        kind, items = read_node(store, items[-1][1])
    return items[-1] if items else None


def items_between(store, root, low, high):
    """Return the items whose key is at least `low` and less than `high`."""
    kind, items = read_node(store, root)
    if kind == LEAF:
        return items[place_of(items, low):place_of(items, high)]
    found = []
    for key, child in items[child_of(items, low):]:
        if key < high:
            found.extend(items_between(store, child, low, high))
    return found


def height(store, root):
    """Return the number of nodes on the way from the root to a leaf."""
    kind, items = read_node(store, root)
    steps = 1
    while kind == INNER:
        kind, items = read_node(store, items[0][1])
        steps += 1
    return steps


def node_pointers(store, root):
    """Return the pointers of all nodes, each before its children."""
    kind, items = read_node(store, root)
    found = [root]
    if kind == INNER:
        for _, child in items:
            found.extend(node_pointers(store, child))
    return found


def release_pointer(store, pointer, is_node):
    """Give up one pointer to a block, and, with its last use, the pointers in it."""
    inside = []
    if is_node and store.uses(pointer) == 1:
        # The content of a new block goes with its last use, so it is read before.
        inside = pointers(store.read(pointer))
    store.drop(pointer)
    for inner, inner_is_node in inside:
        release_pointer(store, inner, inner_is_node)


def release(store, root):
    """Give up one pointer to the root of a tree."""
    release_pointer(store, root, True)
