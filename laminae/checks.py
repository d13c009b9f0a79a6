"""The checker: whether the sectors of a disk are a valid file system, and what that shows."""

from laminae.data import MAX_CELLS, UNIT
from laminae.dirs import ENTRY_KEY
from laminae.disk import BLOCK_SECTORS, disk_from
from laminae.errors import BadImage
from laminae.heads import FIRST_BLOCK, log_mark, present_head
from laminae.inodes import DIRECTORY, FILE, MAX_ENTRIES, MAX_LINKS, RECORD_KEY, ROOT
from laminae.intents import is_name_word
from laminae.mounts import open_disk, play_log
from laminae.nodes import DATA_KEY, own_pointer
from laminae.owners import GREATEST_LIMIT, GREATEST_OWNER, MAX_OWNERS, OWNER_KEY, limit_word, read_limit
from laminae.paths import MAX_DEPTH
from laminae.sound import reached_pointers, tree_items
from laminae.volumes import MAX_VOLUMES, SNAPSHOT, VOLUME_KEY, WAITING_KEY, WRITABLE, read_volume
from laminae.words import word_name


def require(holds):
    """Refuse an image for which something does not hold."""
    if not holds:
        raise BadImage()


def block_of(image, number):
    """Return the words of a block; refuse a number that no block has which can be reached."""
    require(number >= FIRST_BLOCK and BLOCK_SECTORS * number < len(image))
    words = []
    for at in range(BLOCK_SECTORS):
        words.extend(image[BLOCK_SECTORS * number + at])
    return words


def check(image):
    """Return the state of a valid image, and whether it is clean."""
    disk = disk_from(image)
    head = present_head(disk)
    reached_blocks(image, head)
    volumes, owners, waiting = table_parts(sound_items(image, head.table, head.generation))
    rows = []
    for word, value in volumes.items():
        root, writable, origin = read_volume(value)
        rows.append((word_name(word), writable, origin, tree_state(image, root, head.generation)))
    for root in waiting:
        tree_state(image, root, head.generation)
    is_logged = log_mark(disk) == head.generation
    if is_logged:
        # The disk is a copy, and playing does not write to it.
        play_log(open_disk(disk))
    return ((rows, owner_rows(owners)), waiting == [] and not is_logged)


def reached(image):
    """Return number, birth, whether it is a node, and number of pointers of each block that is reached."""
    check(image)
    return reached_blocks(image, present_head(disk_from(image)))


def reached_blocks(image, head):
    """Return what `reached` returns; refuse births that cannot be and a block with two of them."""
    found = reached_pointers(lambda pointer: block_of(image, pointer[0]), head.table, head.blocks)
    rows = {}
    for (number, birth), is_node in found:
        _, first_birth, _, count = rows.get(number, (number, birth, is_node, 0))
        require(1 <= birth <= head.generation and birth == first_birth)
        rows[number] = (number, birth, is_node, count + 1)
    return [rows[number] for number in sorted(rows)]


def sound_items(image, root, generation):
    """Return the items of a tree; refuse one that is not sound."""
    def read(pointer):
        """Return the words of a node that says that it is the one which the pointer means."""
        block = block_of(image, pointer[0])
        require(own_pointer(block) == pointer and pointer[1] <= generation)
        return block
    return tree_items(read, root)


def tree_state(image, root, generation):
    """Return the inodes of a tree; refuse one that is not sound or not the tree of a volume."""
    return volume_state(image, sound_items(image, root, generation))


def table_parts(items):
    """Return the volumes and the owners of the table, each a dict to their values, and the roots that wait."""
    parts = {VOLUME_KEY: {}, OWNER_KEY: {}, WAITING_KEY: {}}
    for (first, kind, rest), value in items:
        require(first == 0 and kind in parts)
        parts[kind][rest] = value
    volumes, owners, waiting = parts[VOLUME_KEY], parts[OWNER_KEY], parts[WAITING_KEY]
    check_volumes(volumes)
    check_owners(owners)
    require(all(serial >= 1 and value[2:] == (0, 0) for serial, value in waiting.items()))
    return (volumes, owners, [value[:2] for value in waiting.values()])


def check_volumes(volumes):
    """Refuse items of volumes that are not valid."""
    require(1 <= len(volumes) <= MAX_VOLUMES)
    for word, (_, _, flags, origin) in volumes.items():
        require(is_name_word(word) and flags in (SNAPSHOT, WRITABLE))
        require(origin == 0 or origin != word and origin in volumes)
    require(any(value[2] == WRITABLE for value in volumes.values()))


def check_owners(owners):
    """Refuse items of owners that are not valid."""
    require(len(owners) <= MAX_OWNERS)
    most = limit_word(GREATEST_LIMIT)
    for owner, (parent, charge_word, inode_word, last) in owners.items():
        require(1 <= owner <= GREATEST_OWNER and charge_word <= most and inode_word <= most and last == 0)
        require(parent == 0 or parent in owners)
    for owner in owners:
        above = owner
        for _ in range(MAX_OWNERS):
            above = 0 if above == 0 else owners[above][0]
        require(above == 0)


def owner_rows(owners):
    """Return each registered owner with its parent and its limits."""
    return [(owner, value[0], read_limit(value[1]), read_limit(value[2])) for owner, value in owners.items()]


def volume_state(image, items):
    """Return the inodes of a volume with these items; refuse items that are not valid."""
    records = records_in(items)
    entries = entries_in(items, records)
    units = units_in(image, items, records)
    check_names(records, entries)
    found = []
    for inode, record in records.items():
        content = units[inode] if record[0] == FILE else [(word_name(name), other) for name, other in entries[inode]]
        if record[:2] != (FILE, 0):
            found.append((inode, *record, content))
    return found


def records_in(items):
    """Return a dict from each inode to its record."""
    records = {}
    for (inode, kind, rest), value in items:
        require(inode >= 1 and kind in (RECORD_KEY, ENTRY_KEY, DATA_KEY))
        if kind == RECORD_KEY:
            require(rest == 0 and is_record(value))
            records[inode] = value
    require(all(key[0] in records for key, _ in items))
    require(ROOT in records and records[ROOT][:2] == (DIRECTORY, ROOT))
    return records


def is_record(value):
    """Tell whether a value can be the record of an inode."""
    kind, second, length, owner = value
    if kind == FILE:
        return second <= MAX_LINKS and length <= MAX_CELLS and owner <= GREATEST_OWNER
    return kind == DIRECTORY and length <= MAX_ENTRIES and owner <= GREATEST_OWNER


def entries_in(items, records):
    """Return a dict from each inode to its entries, each the word of a name and the inode that it leads to."""
    entries = {inode: [] for inode in records}
    for (directory, kind, name), value in items:
        if kind == ENTRY_KEY:
            inode = value[0]
            require(records[directory][0] == DIRECTORY and is_name_word(name))
            require(inode != ROOT and inode in records and value == (inode, records[inode][0], 0, 0))
            entries[directory].append((name, inode))
    return entries


def units_in(image, items, records):
    """Return a dict from each inode to its units, each with its cells."""
    units = {inode: [] for inode in records}
    for (inode, kind, unit), value in items:
        if kind == DATA_KEY:
            record_kind, _, length, _ = records[inode]
            require(record_kind == FILE and UNIT * unit < length and value[2:] == (0, 0))
            cells = block_of(image, value[0])
            require(any(cells) and not any(cells[length - UNIT * unit:]))
            units[inode].append((unit, cells))
    return units


def check_names(records, entries):
    """Refuse inodes whose records do not say which entries lead to them or how many they have."""
    names = {inode: [] for inode in records}
    for directory, found in entries.items():
        for _, inode in found:
            names[inode].append(directory)
    for inode, (kind, second, length, _) in records.items():
        if kind == FILE:
            require(len(names[inode]) == second)
        else:
            require(len(entries[inode]) == length and (inode == ROOT or names[inode] == [second]))
    # Only now every directory is known to have a record above it.
    for inode, record in records.items():
        require(record[0] == FILE or leads_to_root(records, inode))


def leads_to_root(records, directory):
    """Tell whether the way up from a directory is short enough, and ends at the root."""
    above = directory
    for _ in range(MAX_DEPTH):
        above = records[above][1]
    return above == ROOT
