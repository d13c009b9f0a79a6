"""A disk of small sectors whose power can fail."""

from laminae.errors import BadImage, NotValid, PowerOff
from laminae.words import are_words, is_word

MIN_BLOCKS = 96
MAX_BLOCKS = 256
SECTOR_WORDS = 8
BLOCK_WORDS = 32
BLOCK_SECTORS = 4
MOST_OPERATIONS = 100000


def is_size(blocks):
    """Tell whether a disk may have this number of blocks."""
    return is_word(blocks) and MIN_BLOCKS <= blocks <= MAX_BLOCKS


def are_choices(choices):
    """Tell whether a value of any kind says what becomes of waiting writes in a cut."""
    if not isinstance(choices, list):
        return False
    return all(is_word(choice) and choice <= SECTOR_WORDS for choice in choices)


class Disk:
    """The sectors that last, the writes that wait, and the power.

    A list that stands for a sector is never changed, only replaced by another list.
    """

    def __init__(self, blocks):
        """Make a new disk with the power on."""
        if not is_size(blocks):
            raise NotValid()
        self.blocks = blocks
        self._kept = [[0] * SECTOR_WORDS for _ in range(BLOCK_SECTORS * blocks)]
        self._shown = list(self._kept)
        self._writes = []
        self._powered = True
        self._before_failure = None

    def read(self, sector):
        """Return what was written to the sector last."""
        if not self._powered:
            raise PowerOff()
        if not self._is_sector(sector):
            raise NotValid()
        return list(self._shown[sector])

    def write(self, sector, words):
        """Add a waiting write."""
        if not self._is_sector(sector) or not are_words(words, SECTOR_WORDS):
            raise NotValid()
        self._begin_operation()
        written = list(words)
        self._writes.append((sector, written))
        self._shown[sector] = written

    def flush(self):
        """Make all waiting writes last."""
        self._begin_operation()
        self._settle_writes([SECTOR_WORDS] * len(self._writes))

    def waiting(self):
        """Return the waiting writes in their order."""
        return [(sector, list(words)) for sector, words in self._writes]

    def fail_after(self, count):
        """Let the power fail ahead of the operation with this number from now on."""
        if count is not None and not (is_word(count) and count <= MOST_OPERATIONS):
            raise NotValid()
        self._before_failure = count

    def cut(self, choices):
        """Decide what becomes of each waiting write, and turn the power on."""
        if not are_choices(choices):
            raise NotValid()
        self._settle_writes(choices)
        self._powered = True
        self._before_failure = None

    def image(self):
        """Return all sectors as they would be read."""
        return [list(words) for words in self._shown]

    def lasting(self):
        """Return all sectors without the waiting writes."""
        return [list(words) for words in self._kept]

    def _is_sector(self, sector):
        """Tell whether the disk has this sector."""
        return is_word(sector) and sector < BLOCK_SECTORS * self.blocks

    def _begin_operation(self):
        """Count a write or a flush; the power may fail ahead of it."""
        if self._before_failure == 0:
            self._powered = False
        if not self._powered:
            raise PowerOff()
        if self._before_failure is not None:
            self._before_failure -= 1

    def _settle_writes(self, choices):
        """Let as many first words of each waiting write last as its choice says; then no write waits."""
        for (sector, words), many in zip(self._writes, choices):
            self._kept[sector] = words[:many] + self._kept[sector][many:]
        self._shown = list(self._kept)
        self._writes = []


def read_block(disk, number):
    """Return the words of a block as they would be read."""
    words = []
    for at in range(BLOCK_SECTORS):
        words.extend(disk.read(BLOCK_SECTORS * number + at))
    return words


def disk_from(image):
    """Return a new disk on which the sectors of an image last."""
    if not isinstance(image, list) or not all(are_words(words, SECTOR_WORDS) for words in image):
        raise BadImage()
    blocks, left = divmod(len(image), BLOCK_SECTORS)
    if left != 0 or not is_size(blocks):
        raise BadImage()
    disk = Disk(blocks)
    for sector, words in enumerate(image):
        disk.write(sector, words)
    disk.flush()
    return disk
