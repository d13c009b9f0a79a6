"""The nodes of trees, and the blocks that they are written to."""

from laminae.disk import BLOCK_WORDS, MAX_BLOCKS
from laminae.errors import BadImage, NotValid
from laminae.heads import FIRST_BLOCK

LEAF = 1
INNER = 2
LEAF_ITEMS = 4
INNER_ITEMS = 5
LEAF_ITEM_WORDS = 7
INNER_ITEM_WORDS = 5
KEY_WORDS = 3
FIRST_ITEM = 4
DATA_KEY = 3
NODE_KEYS = (4, 6)


def most_items(kind):
    """Return how many items a node of this kind may have."""
    if kind == LEAF:
        return LEAF_ITEMS
    if kind == INNER:
        return INNER_ITEMS
    raise NotValid()


def item_words(kind):
    """Return how many words an item in a node of this kind takes."""
    return LEAF_ITEM_WORDS if kind == LEAF else INNER_ITEM_WORDS


def is_pointer(pointer):
    """Tell whether a tuple of two words can lead to a block."""
    number, birth = pointer
    return FIRST_BLOCK <= number < MAX_BLOCKS and birth >= 1


def are_ascending(items):
    """Tell whether the keys of the items are in strictly ascending order."""
    return all(items[at][0] < items[at + 1][0] for at in range(len(items) - 1))


def to_block(kind, items, pointer):
    """Return the block of a node; the pointer is its own."""
    if len(items) > most_items(kind) or not are_ascending(items):
        raise NotValid()
    block = [kind, len(items), *pointer]
    for key, content in items:
        block.extend([*key, *content])
    return block + [0] * (BLOCK_WORDS - len(block))


def read_item(words):
    """Return the item that is written in these words."""
    return (tuple(words[:KEY_WORDS]), tuple(words[KEY_WORDS:]))


def from_block(block):
    """Return the kind and the items of a node's block."""
    kind, many = block[0], block[1]
    if kind not in (LEAF, INNER) or many > most_items(kind) or not is_pointer(own_pointer(block)):
        raise BadImage()
    size = item_words(kind)
    end = FIRST_ITEM + many * size
    items = [read_item(block[start:start + size]) for start in range(FIRST_ITEM, end, size)]
    if not are_ascending(items) or any(word != 0 for word in block[end:]):
        raise BadImage()
    if kind == INNER and not all(is_pointer(pointer) for _, pointer in items):
        raise BadImage()
    return (kind, items)


def own_pointer(block):
    """Return the pointer that a node's block says is its own."""
    return (block[2], block[3])


def pointers(block):
    """Return the pointers in a node's block, each with True if it leads to a node."""
    kind, items = from_block(block)
    if kind == INNER:
        return [(pointer, True) for _, pointer in items]
    return [(value[:2], key[1] in NODE_KEYS) for key, value in items if key[1] == DATA_KEY or key[1] in NODE_KEYS]


def split_items(items, most):
    """Return the items in one list, or in two if one node may not have them all."""
    if len(items) <= most:
        return [list(items)]
    half = (len(items) + 1) // 2
    return [items[:half], items[half:]]


def place_of(items, key):
    """Return how many items have a lesser key."""
    return len([item for item in items if item[0] < key])


def child_of(items, key):
    """Return the index of the last item whose key is at most this one, or 0."""
    return max(len([item for item in items if item[0] <= key]) - 1, 0)
