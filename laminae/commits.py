"""Commits: what makes the present state of a store last."""

from laminae.disk import BLOCK_SECTORS, SECTOR_WORDS
from laminae.heads import Head, log_mark, place

WRITE = "write"
FLUSH = "flush"


def next_head(store):
    """Return the head that makes the present state of a store last."""
    return Head(store.generation(), store.table, store.disk.blocks)


def block_steps(store, number):
    """Return the writes of the four sectors of a new block."""
    words = store.read((number, store.generation()))
    steps = []
    for at in range(BLOCK_SECTORS):
        start = SECTOR_WORDS * at
        steps.append((WRITE, BLOCK_SECTORS * number + at, words[start:start + SECTOR_WORDS]))
    return steps


def commit_steps(store):
    """Return the steps of a commit, without performing them."""
    # The log is read in any case: that refuses a disk without power, also if there is nothing to commit.
    mark = log_mark(store.disk)
    if store.table == store.head.table and mark < store.head.generation:
        return []
    steps = []
    for number in store.new_blocks():
        steps.extend(block_steps(store, number))
    head = next_head(store)
    return steps + [(FLUSH,), (WRITE, place(head.generation), head.sector()), (FLUSH,)]


def commit(store):
    """Make the present state of a store last; tell whether there was something to commit."""
    steps = commit_steps(store)
    for step in steps:
        if step[0] == WRITE:
            store.disk.write(step[1], step[2])
        else:
            store.disk.flush()
    if steps == []:
        return False
    store.use_head(next_head(store))
    return True
