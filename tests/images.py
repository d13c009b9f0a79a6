"""Disks that are written word by word, for tests of what opens and checks them."""

from laminae.disk import Disk


def node(kind, number, birth, items):
    """The words of a node."""
    words = [kind, len(items), number, birth]
    for key, content in items:
        words += [*key, *content]
    return words + [0] * (32 - len(words))


def leaf(number, birth, items):
    return node(1, number, birth, items)


def inner(number, birth, items):
    return node(2, number, birth, items)


def disk_of(blocks, table, generation=1, size=96):
    """A disk with these blocks (a dict from number to words) and this head."""
    disk = Disk(size)
    for number, words in blocks.items():
        for at in range(4):
            disk.write(4 * number + at, words[8 * at:8 * at + 8])
    disk.write(generation % 2, [generation, *table, 4, size, 0, 0, generation])
    disk.flush()
    return disk


def words_of(image, number):
    """The words of a block of an image."""
    return image[4 * number] + image[4 * number + 1] + image[4 * number + 2] + image[4 * number + 3]


def with_words(image, number, words):
    """A copy of an image in which a block has other words."""
    changed = [list(sector) for sector in image]
    for at in range(4):
        changed[4 * number + at] = list(words[8 * at:8 * at + 8])
    return changed


def with_sector(image, sector, words):
    """A copy of an image with another sector."""
    changed = [list(row) for row in image]
    changed[sector] = list(words)
    return changed
