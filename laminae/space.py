"""The space of a disk: which blocks are in use, and which the present head reaches."""

from laminae.errors import NoSpace, NotValid
from laminae.heads import FIRST_BLOCK
from laminae.words import is_word

ADD = 60
REMOVE = 20


class Space:
    """The uses of each block, and whether it is held."""

    def __init__(self, uses):
        """Begin with these uses; the blocks that have some are held."""
        self.blocks = len(uses)
        self._counts = list(uses)
        self._held = [count > 0 for count in uses]

    def take(self, reserve):
        """Give the least free block one use, and return its number."""
        if self.free() <= reserve:
            raise NoSpace()
        block = self.least_free()
        self._counts[block] = 1
        return block

    def least_free(self):
        """Return the number of the least free block, or None."""
        for block in range(self.blocks):
            if self.is_free(block):
                return block
        return None

    def share(self, block):
        """Add one use."""
        self._check_used(block)
        self._counts[block] += 1

    def drop(self, block):
        """Remove one use, and return how many are left."""
        self._check_used(block)
        self._counts[block] -= 1
        return self._counts[block]

    def uses(self, block):
        """Return how many uses the block has."""
        self._check_exists(block)
        return self._counts[block]

    def is_held(self, block):
        """Tell whether the present head reaches the block."""
        self._check_exists(block)
        return self._held[block]

    def is_new(self, block):
        """Tell whether the block was taken since the last commit and has uses."""
        return self.uses(block) > 0 and not self._held[block]

    def is_free(self, block):
        """Tell whether the block can be taken."""
        return self.uses(block) == 0 and not self._held[block]

    def free(self):
        """Return how many blocks are free."""
        return self._count_unused(False)

    def pending(self):
        """Return how many blocks become free with the next commit."""
        return self._count_unused(True)

    def settle(self):
        """Hold exactly the blocks that have uses."""
        self._held = [count > 0 for count in self._counts]

    def saved(self):
        """Return the whole space as a plain value."""
        return (tuple(self._counts), tuple(self._held))

    def restore(self, saved):
        """Make the space what it was when this value was returned."""
        counts, held = saved
        self._counts = list(counts)
        self._held = list(held)

    def _count_unused(self, held):
        """Return how many blocks without uses are held, or are not."""
        return len([count for count, now_held in zip(self._counts, self._held) if count == 0 and now_held == held])

    def _check_exists(self, block):
        """Refuse what is not the number of a block."""
        if not is_word(block) or block >= self.blocks:
            raise NotValid()

    def _check_used(self, block):
        """Refuse a block that has no pointers which come and go."""
        self._check_exists(block)
        if block < FIRST_BLOCK or self._counts[block] == 0:
            raise NotValid()
