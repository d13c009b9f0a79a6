"""A disk in use: its present head, its space, and the blocks that no commit has written yet."""

from laminae.disk import BLOCK_WORDS, read_block
from laminae.errors import LaminaError, NoSpace, NotValid, PowerOff
from laminae.heads import FIRST_BLOCK
from laminae.space import ADD
from laminae.words import are_words, is_word


class Store:
    """The blocks of a disk, read from it, and new ones, kept in memory."""

    def __init__(self, disk, head, space):
        """Use a disk with its present head and its space."""
        self.disk = disk
        self.head = head
        self.space = space
        self.table = head.table
        self.reserve = ADD
        self._memory = {}

    def use_table(self, pointer):
        """Set the pointer to the root of the table."""
        self.table = pointer

    def use_reserve(self, reserve):
        """Set how many blocks stay free when one is taken."""
        self.reserve = reserve

    def use_head(self, head):
        """Go on from a head that lasts now, and with it the blocks that have uses."""
        self.head = head
        self.space.settle()
        self._memory = {}

    def generation(self):
        """Return the generation that is being made."""
        return self.head.generation + 1

    def read(self, pointer):
        """Return the words of a block."""
        number = pointer[0]
        if not is_word(number) or not FIRST_BLOCK <= number < self.space.blocks:
            raise NotValid()
        if number in self._memory:
            return list(self._memory[number])
        return read_block(self.disk, number)

    def next_pointer(self):
        """Return the pointer of the block that would be made now."""
        self.require(1)
        return (self.space.least_free(), self.generation())

    def make(self, words):
        """Take a block for these words, and return its pointer."""
        if not are_words(words, BLOCK_WORDS):
            raise NotValid()
        number = self.space.take(self.reserve)
        self._memory[number] = tuple(words)
        return (number, self.generation())

    def is_new(self, pointer):
        """Tell whether the block may be written in its place."""
        number = pointer[0]
        return self.space.is_new(number) and self.space.uses(number) == 1

    def write(self, pointer, words):
        """Replace the content of a new block."""
        if not self.is_new(pointer) or not are_words(words, BLOCK_WORDS):
            raise NotValid()
        self._memory[pointer[0]] = tuple(words)

    def share(self, pointer):
        """Add one use of a block."""
        self.space.share(pointer[0])

    def drop(self, pointer):
        """Remove one use of a block, and return how many are left."""
        number = pointer[0]
        left = self.space.drop(number)
        if left == 0 and number in self._memory:
            del self._memory[number]
        return left

    def uses(self, pointer):
        """Return how many uses a block has."""
        return self.space.uses(pointer[0])

    def require(self, many):
        """Refuse if so many blocks cannot be taken."""
        if self.free() < many + self.reserve:
            raise NoSpace()

    def free(self):
        """Return how many blocks are free."""
        return self.space.free()

    def new_blocks(self):
        """Return the numbers of the new blocks in ascending order."""
        return sorted(self._memory)

    def saved(self):
        """Return the space, the memory and the table as a plain value."""
        return (self.space.saved(), dict(self._memory), self.table)

    def restore(self, saved):
        """Make the store what it was when this value was returned."""
        space, memory, table = saved
        self.space.restore(space)
        # The value may be restored again, so it keeps its own memory.
        self._memory = dict(memory)
        self.table = table


def attempt(store, saved, work, *arguments):
    """Do work on a store; if it is refused, make the store what it was when its state was saved."""
    try:
        return work(*arguments)
    except PowerOff:
        # Without power the store is not used any more.
        raise
    except LaminaError:
        store.restore(saved)
        raise
