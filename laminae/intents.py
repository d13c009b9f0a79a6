"""The log of intents: changes of volumes as words, how they are written to the log, and how they are played again."""

from laminae.data import MAX_CELLS, MAX_UNITS, erase_inode, set_length, share_range, write_range
from laminae.errors import BadImage, BadName, LaminaError, NoSpace, PowerOff
from laminae.handles import check_orphan
from laminae.heads import FIRST_SECTOR, LOG_SECTORS
from laminae.inodes import DIRECTORY, FILE, set_owner_of
from laminae.owners import is_owner
from laminae.paths import link_entry, make_entry, move_entry, remove_directory_entry, unlink_entry
from laminae.volumes import prepare_root, set_root
from laminae.words import is_word, word_name

MAKE = 1
LINK = 2
UNLINK = 3
REMOVE_DIRECTORY = 4
MOVE = 5
WRITE = 6
RESIZE = 7
SHARE = 8
GIVE = 9
ERASE = 10
GROUP_WORDS = 4
# What the words behind the kind are; the cells of the kind WRITE follow behind these.
WORDS_OF = {
    MAKE: ("name", "inode", "name", "kind", "owner"),
    LINK: ("name", "inode", "inode", "name"),
    UNLINK: ("name", "inode", "name"),
    REMOVE_DIRECTORY: ("name", "inode", "name"),
    MOVE: ("name", "inode", "name", "inode", "name"),
    WRITE: ("name", "inode", "word"),
    RESIZE: ("name", "inode", "word"),
    SHARE: ("name", "inode", "word", "inode", "word", "word"),
    GIVE: ("name", "inode", "owner"),
    ERASE: ("name", "inode"),
}


def parts_for(many):
    """Return how many groups so many words and their number take."""
    return (many + GROUP_WORDS) // GROUP_WORDS


def sectors_of(intent):
    """Return how many sectors the record of an intent takes."""
    return parts_for(len(intent))


def record_sectors(intent, record, generation):
    """Return the sectors of the record of an intent."""
    parts = sectors_of(intent)
    words = [len(intent), *intent]
    padded = words + [0] * (GROUP_WORDS * parts - len(words))
    sectors = []
    for part in range(parts):
        start = GROUP_WORDS * part
        sectors.append([record, part, parts, *padded[start:start + GROUP_WORDS], generation])
    return sectors


class Log:
    """The log of a generation: where its next record goes, and which number that has."""

    def __init__(self, generation):
        """Begin without records."""
        self.generation = generation
        self.next_sector = FIRST_SECTOR
        self.next_record = 1

    def fits(self, intents):
        """Tell whether the records of these intents fit behind those that are there."""
        return self.next_sector + sum(sectors_of(intent) for intent in intents) <= FIRST_SECTOR + LOG_SECTORS

    def append_records(self, intents):
        """Return the writes of the records of these intents, each a sector and its words, and count on."""
        if not self.fits(intents):
            raise NoSpace()
        writes = []
        for intent in intents:
            for words in record_sectors(intent, self.next_record, self.generation):
                writes.append((self.next_sector, words))
                self.next_sector += 1
            self.next_record += 1
        return writes


def is_whole(sectors, record, generation):
    """Tell whether these sectors of the log begin with a whole record of this number."""
    parts = sectors[0][2]
    if not 1 <= parts <= len(sectors):
        return False
    for part in range(parts):
        words = sectors[part]
        if words[:3] != [record, part, parts] or words[-1] != generation:
            return False
    return True


def read_record_words(sectors):
    """Return the intent in the sectors of a whole record."""
    words = []
    for sector in sectors:
        words.extend(sector[3:3 + GROUP_WORDS])
    end = 1 + words[0]
    intent = tuple(words[1:end])
    if parts_for(words[0]) != len(sectors) or any(words[end:]) or not check_intent(intent):
        raise BadImage()
    return intent


def whole_records(sectors, generation):
    """Return the intents in the whole records of a generation."""
    intents = []
    at = 0
    while at < len(sectors) and is_whole(sectors[at:], len(intents) + 1, generation):
        end = at + sectors[at][2]
        intents.append(read_record_words(sectors[at:end]))
        at = end
    return intents


def is_name_word(word):
    """Tell whether a word is the word of a name."""
    try:
        word_name(word)
        return True
    except BadName:
        return False


def is_field(what, word):
    """Tell whether a word is what stands at its place in an intent."""
    if what == "name":
        return is_name_word(word)
    if what == "inode":
        return word >= 1
    if what == "kind":
        return word in (FILE, DIRECTORY)
    return what == "word" or is_owner(word)


def is_within_bounds(kind, words):
    """Tell whether the cells or units that an intent of this kind names are those that a file can have."""
    if kind == WRITE:
        return len(words) >= 4 and words[2] + len(words[3:]) <= MAX_CELLS
    if kind == RESIZE:
        return words[2] <= MAX_CELLS
    if kind == SHARE:
        _, _, first, _, at, units = words
        return units >= 1 and first + units <= MAX_UNITS and at + units <= MAX_UNITS
    return True


def check_intent(words):
    """Tell whether a tuple is an intent."""
    if len(words) == 0 or not all(is_word(word) for word in words) or words[0] not in WORDS_OF:
        return False
    kind, *rest = words
    fields = WORDS_OF[kind]
    if len(rest) < len(fields) or len(rest) > len(fields) and kind != WRITE:
        return False
    return all(is_field(what, word) for what, word in zip(fields, rest)) and is_within_bounds(kind, rest)


def erase_orphan(store, root, inode):
    """Remove a file without a name; return the new root."""
    check_orphan(store, root, inode)
    return erase_inode(store, root, inode)


def changed_tree(store, root, kind, words):
    """Return the root of the tree of a volume after a change; the words are those behind the volume's name."""
    if kind == WRITE:
        inode, start, *cells = words
        return write_range(store, root, inode, start, cells)
    pairs = {MAKE: make_entry, UNLINK: unlink_entry, MOVE: move_entry}
    if kind in pairs:
        change = pairs[kind]
        root, _ = change(store, root, *words)
        return root
    roots = {
        LINK: link_entry, REMOVE_DIRECTORY: remove_directory_entry, RESIZE: set_length, SHARE: share_range,
        GIVE: set_owner_of, ERASE: erase_orphan}
    change = roots[kind]
    return change(store, root, *words)


def perform(store, intent):
    """Make the change of an intent with the reserve of the store."""
    kind, name, *words = intent
    volume = word_name(name)
    root = prepare_root(store, volume)
    set_root(store, volume, changed_tree(store, root, kind, words))


def play(store, intent):
    """Make the change of an intent that was read from the log."""
    reserve = store.reserve
    store.use_reserve(0)
    try:
        perform(store, intent)
    except PowerOff:
        raise
    except LaminaError:
        raise BadImage()
    finally:
        store.reserve = reserve


def play_all(store, intents):
    """Make the changes of intents in their order."""
    for intent in intents:
        play(store, intent)
