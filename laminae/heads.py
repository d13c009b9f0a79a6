"""Heads: the sectors that say which generation lasts and where everything begins."""

from laminae.errors import BadImage

LOG_BLOCKS = 4
FIRST_BLOCK = 5
FIRST_SECTOR = 4
LOG_SECTORS = 16
LAST_WORD = 7


class Head:
    """A generation, the pointer to the root of its table, and the number of blocks of its disk."""

    def __init__(self, generation, table, blocks):
        """Keep what the head says."""
        self.generation = generation
        self.table = table
        self.blocks = blocks

    def sector(self):
        """Return the words of the head."""
        number, birth = self.table
        return [self.generation, number, birth, LOG_BLOCKS, self.blocks, 0, 0, self.generation]


def place(generation):
    """Return the sector for the head of a generation."""
    return generation % 2


def is_valid_head(sector, words):
    """Tell whether the words at this place are a valid head."""
    generation = words[0]
    return generation != 0 and words[LAST_WORD] == generation and place(generation) == sector


def present_head(disk):
    """Return the valid head with the greater generation."""
    sectors = [disk.read(0), disk.read(1)]
    valid = [words for sector, words in enumerate(sectors) if is_valid_head(sector, words)]
    if valid == []:
        raise BadImage()
    generation = max(words[0] for words in valid)
    head = read_head(sectors[place(generation)], disk.blocks)
    other = sectors[1 - place(generation)]
    if other[LAST_WORD] >= generation or log_mark(disk) > generation:
        raise BadImage()
    return head


def read_head(words, blocks):
    """Return the head that a sector holds, for a disk with this number of blocks."""
    generation = words[0]
    head = Head(generation, (words[1], words[2]), blocks)
    # A head has no freedom but its generation and its table.
    if words != head.sector():
        raise BadImage()
    number, birth = head.table
    if not FIRST_BLOCK <= number < blocks or not 1 <= birth <= generation:
        raise BadImage()
    return head


def log_mark(disk):
    """Return the greatest generation in which a sector of the log was written."""
    return max(disk.read(FIRST_SECTOR + at)[LAST_WORD] for at in range(LOG_SECTORS))
