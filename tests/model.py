"""A plain model of the whole file system: dicts and lists, no blocks. Room never runs out in it.

Each call has the name and the arguments of the call of the program (without the session), and raises the same errors.
"""

import copy

from laminae.errors import (
    BadHandle, BadName, Busy, CrossVolume, Exists, LoopFound, Missing, NoProcess, NotEmpty, NotValid, NoVolume,
    OverQuota, ReadOnly, TooLong, TooMany, WrongKind)

ALPHABET = "abcdefghijklmnopqrstuvwxyz0123456789._-"


def is_name(text):
    """Whether a string is a name."""
    return 1 <= len(text) <= 11 and set(text) <= set(ALPHABET) and set(text) != {"."}


def order(name):
    """What names are sorted by."""
    return [ALPHABET.index(letter) for letter in name]


def is_number(value, low, high):
    """Whether a value is an integer within bounds."""
    return isinstance(value, int) and not isinstance(value, bool) and low <= value <= high


def need(holds, error):
    """Raise an error unless something holds."""
    if not holds:
        raise error()


def split(path):
    """The volume of a path or "", whether it begins at a root, and its names."""
    volume, rooted, rest = "", False, path
    if path[:1] == "@":
        volume, _, rest = path[1:].partition("/")
        need(is_name(volume) and not path.endswith("/"), BadName)
        rooted = True
        names = rest.split("/") if "/" in path else []
    elif path in ("", "/"):
        return "", path == "/", []
    else:
        rooted = path[0] == "/"
        names = path[rooted:].split("/")
    need(len(names) <= 8 and all(is_name(name) for name in names), BadName)
    return volume, rooted, names


class Inode:
    """A file with its cells, or a directory with its entries."""

    def __init__(self, kind, owner, parent=1):
        self.kind, self.owner, self.parent = kind, owner, parent
        self.links = 1
        self.cells = []
        self.entries = {}

    def units(self):
        """The units that have something else than zeros."""
        padded = self.cells + [0] * (-len(self.cells) % 32)
        units = [(at // 32, padded[at:at + 32]) for at in range(0, len(padded), 32)]
        return [(unit, cells) for unit, cells in units if any(cells)]

    def charge(self):
        return 1 + len(self.units())


class Volume:
    """A volume with its inodes."""

    def __init__(self, writable, origin, inodes):
        self.writable, self.origin, self.inodes = writable, origin, inodes


class Open:
    """An open file."""

    def __init__(self, volume, inode, mode):
        self.volume, self.inode, self.mode = volume, inode, mode
        self.position, self.references = 0, 1


class Process:
    """A process."""

    def __init__(self, owner, volume, directory, descriptors):
        self.owner, self.volume, self.directory, self.descriptors = owner, volume, directory, descriptors


def least(used, many=None):
    """The least number that is not in use."""
    return min(set(range(len(used) + 1)) - set(used))


class Model:
    """The file system of a new disk."""

    def __init__(self):
        self.volumes = {"main": Volume(True, "", {1: Inode(2, 0)})}
        self.owners = {}
        self.mounted()

    def mounted(self):
        """What a mount does: nothing is open, process 0 exists alone, and there are no orphans."""
        self.files = {}
        for volume in self.volumes.values():
            if volume.writable:
                self.drop_orphans(volume)
        first = min((name for name, volume in self.volumes.items() if volume.writable), key=order)
        self.processes = {0: Process(0, first, 1, {})}

    # What is seen.

    def state(self):
        """The state as point [135] has it."""
        volumes = []
        for name in sorted(self.volumes, key=order):
            volume = self.volumes[name]
            rows = []
            for number, inode in sorted(volume.inodes.items()):
                if inode.kind == 2:
                    content = [(entry, inode.entries[entry]) for entry in sorted(inode.entries, key=order)]
                    rows.append((number, 2, inode.parent, len(content), inode.owner, content))
                elif inode.links > 0:
                    rows.append((number, 1, inode.links, len(inode.cells), inode.owner, inode.units()))
            volumes.append((name, volume.writable, volume.origin, rows))
        return volumes, [(owner, *self.owners[owner]) for owner in sorted(self.owners)]

    def open_files(self):
        return [(number, file.volume, file.inode, file.mode, file.position, file.references)
                for number, file in sorted(self.files.items())]

    def list_processes(self):
        return [(number, row.owner, row.volume, row.directory, sorted(row.descriptors.items()))
                for number, row in sorted(self.processes.items())]

    def usages(self):
        return [self.usage(owner) for owner in range(256)]

    # Owners.

    def chain(self, owner):
        found = [owner]
        while found[-1] != 0:
            found.append(self.owners[found[-1]][0] if found[-1] in self.owners else 0)
        return found

    def usage(self, owner, volumes=None):
        inodes = [inode for volume in self.volumes.values() if volume.writable for inode in volume.inodes.values()
                  if owner in self.chain(inode.owner)]
        return sum(inode.charge() for inode in inodes), len(inodes)

    def check_limits(self, before):
        """Raise OverQuota if something was made more since, and is above a limit now."""
        for owner, (_, *limits) in self.owners.items():
            for limit, old, new in zip(limits, before[owner], self.usage(owner)):
                need(limit is None or new <= old or new <= limit, OverQuota)

    # Paths.

    def start(self, process, path):
        volume, rooted, names = split(path)
        row = self.processes[process]
        return volume or row.volume, 1 if rooted else row.directory, names

    def walk(self, volume, at, names):
        inodes = self.volumes[volume].inodes
        for name in names:
            need(inodes[at].kind == 2, WrongKind)
            need(name in inodes[at].entries, Missing)
            at = inodes[at].entries[name]
        return at

    def path(self, process, path):
        volume, at, names = self.start(process, path)
        need(volume in self.volumes, NoVolume)
        return volume, self.walk(volume, at, names)

    def place(self, process, path):
        volume, at, names = self.start(process, path)
        need(names, BadName)
        need(volume in self.volumes, NoVolume)
        directory = self.walk(volume, at, names[:-1])
        need(self.volumes[volume].inodes[directory].kind == 2, WrongKind)
        return volume, directory, names[-1]

    def inode(self, volume, number):
        return self.volumes[volume].inodes[number]

    def depth(self, volume, number):
        steps = 0
        while number != 1:
            number, steps = self.inode(volume, number).parent, steps + 1
        return steps

    def height(self, volume, number):
        below = [child for child in self.inode(volume, number).entries.values() if self.inode(volume, child).kind == 2]
        return max([1 + self.height(volume, child) for child in below], default=0)

    def works_in(self, volume, number):
        return any((row.volume, row.directory) == (volume, number) for row in self.processes.values())

    # What calls share.

    def process(self, process):
        need(process in self.processes, NoProcess)
        return self.processes[process]

    def file(self, process, descriptor, letter=""):
        row = self.process(process)
        need(descriptor in row.descriptors, BadHandle)
        file = self.files[row.descriptors[descriptor]]
        need(letter in file.mode, BadHandle)
        return file

    def drop_orphans(self, volume):
        for number, inode in list(volume.inodes.items()):
            if inode.kind == 1 and inode.links == 0:
                del volume.inodes[number]

    def remove_if_unused(self, volume, number):
        inode = self.inode(volume, number)
        is_open = any((file.volume, file.inode) == (volume, number) for file in self.files.values())
        if inode.kind == 1 and inode.links == 0 and not is_open and self.volumes[volume].writable:
            del self.volumes[volume].inodes[number]

    def new_inode(self, process, place, kind):
        volume, directory, name = place
        owner = self.processes[process].owner
        for above in self.chain(owner):
            _, charge_limit, inode_limit = self.owners.get(above, (0, None, None))
            charge, inodes = self.usage(above)
            need(charge_limit is None or charge + 1 <= charge_limit, OverQuota)
            need(inode_limit is None or inodes + 1 <= inode_limit, OverQuota)
        need(len(self.inode(volume, directory).entries) < 100, TooMany)
        need(kind == 1 or self.depth(volume, directory) < 8, TooMany)
        number = max(self.volumes[volume].inodes) + 1
        self.volumes[volume].inodes[number] = Inode(kind, owner, directory)
        self.inode(volume, directory).entries[name] = number
        return number

    def close(self, process, descriptor):
        number = self.processes[process].descriptors.pop(descriptor)
        file = self.files[number]
        file.references -= 1
        if file.references == 0:
            del self.files[number]
            self.remove_if_unused(file.volume, file.inode)

    # The calls of the module calls.

    def open_file(self, process, path, mode):
        letters = set(mode)
        need(letters <= set("rwamnc") and len(letters) == len(mode) and letters & set("rw"), NotValid)
        need("w" in mode or not letters & set("amc"), NotValid)
        need("m" in mode or "n" not in mode, NotValid)
        row = self.process(process)
        volume, directory, name = place = self.place(process, path)
        found = self.inode(volume, directory).entries.get(name)
        need(found or "m" in mode, Missing)
        need(not found or "n" not in mode, Exists)
        need(not found or self.inode(volume, found).kind == 1, WrongKind)
        need("w" not in mode or self.volumes[volume].writable, ReadOnly)
        need(len(row.descriptors) < 8, TooMany)
        if not found:
            found = self.new_inode(process, place, 1)
        elif "c" in mode:
            self.inode(volume, found).cells = []
        number = least(self.files)
        self.files[number] = Open(volume, found, "".join(letter for letter in "rwa" if letter in mode))
        descriptor = least(row.descriptors)
        row.descriptors[descriptor] = number
        return descriptor

    def close_file(self, process, descriptor):
        need(is_number(descriptor, 0, 7), NotValid)
        self.file(process, descriptor)
        self.close(process, descriptor)

    def read_cells(self, process, descriptor, count):
        need(is_number(descriptor, 0, 7) and is_number(count, 0, 2048), NotValid)
        file = self.file(process, descriptor, "r")
        cells = self.inode(file.volume, file.inode).cells[file.position:file.position + count]
        file.position += len(cells)
        return cells

    def write_cells(self, process, descriptor, cells):
        need(is_number(descriptor, 0, 7) and isinstance(cells, list) and len(cells) <= 2048, NotValid)
        need(all(is_number(cell, 0, cell) for cell in cells), NotValid)
        file = self.file(process, descriptor, "w")
        if not cells:
            return 0
        inode = self.inode(file.volume, file.inode)
        start = len(inode.cells) if "a" in file.mode else file.position
        need(start + len(cells) <= 2048, TooLong)
        before = {owner: self.usage(owner) for owner in self.owners}
        old = inode.cells
        padded = old + [0] * (start - len(old))
        inode.cells = padded[:start] + cells + padded[start + len(cells):]
        try:
            self.check_limits(before)
        except OverQuota:
            inode.cells = old
            raise
        file.position = start + len(cells)
        return len(cells)

    def move_to(self, process, descriptor, position):
        need(is_number(descriptor, 0, 7) and is_number(position, 0, 2048), NotValid)
        self.file(process, descriptor).position = position

    def resize(self, process, descriptor, length):
        need(is_number(descriptor, 0, 7) and is_number(length, 0, 2048), NotValid)
        file = self.file(process, descriptor, "w")
        inode = self.inode(file.volume, file.inode)
        inode.cells = inode.cells[:length] + [0] * (length - len(inode.cells))

    def share_units(self, process, source, first, target, at, units):
        need(is_number(source, 0, 7) and is_number(first, 0, 63) and is_number(target, 0, 7), NotValid)
        need(is_number(at, 0, 63) and is_number(units, 1, 64 - max(first, at)), NotValid)
        giver, taker = self.file(process, source, "r"), self.file(process, target, "w")
        need(giver.volume == taker.volume, CrossVolume)
        inode = self.inode(taker.volume, taker.inode)
        before = {owner: self.usage(owner) for owner in self.owners}
        old = inode.cells
        given = self.inode(giver.volume, giver.inode).cells + [0] * 4096
        end = 32 * (at + units)
        padded = old + [0] * (end - len(old))
        inode.cells = padded[:32 * at] + given[32 * first:32 * (first + units)] + padded[end:]
        try:
            self.check_limits(before)
        except OverQuota:
            inode.cells = old
            raise

    def describe(self, process, path):
        self.process(process)
        return self.description(*self.path(process, path))

    def describe_open(self, process, descriptor):
        need(is_number(descriptor, 0, 7), NotValid)
        file = self.file(process, descriptor)
        return self.description(file.volume, file.inode)

    def description(self, volume, number):
        inode = self.inode(volume, number)
        if inode.kind == 2:
            return volume, number, 2, 1, len(inode.entries), inode.owner, 1
        return volume, number, 1, inode.links, len(inode.cells), inode.owner, inode.charge()

    def list_directory(self, process, path):
        self.process(process)
        volume, number = self.path(process, path)
        inode = self.inode(volume, number)
        need(inode.kind == 2, WrongKind)
        return [(name, inode.entries[name], self.inode(volume, inode.entries[name]).kind)
                for name in sorted(inode.entries, key=order)]

    # The calls of the module naming.

    def make_directory(self, process, path):
        self.process(process)
        volume, directory, name = place = self.place(process, path)
        need(name not in self.inode(volume, directory).entries, Exists)
        need(self.volumes[volume].writable, ReadOnly)
        return self.new_inode(process, place, 2)

    def remove_directory(self, process, path):
        self.process(process)
        volume, number = self.path(process, path)
        need(self.inode(volume, number).kind == 2, WrongKind)
        need(number != 1 and not self.works_in(volume, number), Busy)
        need(not self.inode(volume, number).entries, NotEmpty)
        need(self.volumes[volume].writable, ReadOnly)
        _, directory, name = self.place(process, path)
        del self.inode(volume, directory).entries[name]
        del self.volumes[volume].inodes[number]

    def link_file(self, process, old, new):
        self.process(process)
        volume, number = self.path(process, old)
        need(self.inode(volume, number).kind == 1, WrongKind)
        other, directory, name = self.place(process, new)
        need(volume == other, CrossVolume)
        entries = self.inode(volume, directory).entries
        need(name not in entries, Exists)
        need(self.volumes[volume].writable, ReadOnly)
        need(self.inode(volume, number).links < 60 and len(entries) < 100, TooMany)
        entries[name] = number
        self.inode(volume, number).links += 1

    def unlink_file(self, process, path):
        self.process(process)
        volume, number = self.path(process, path)
        need(self.inode(volume, number).kind == 1, WrongKind)
        need(self.volumes[volume].writable, ReadOnly)
        _, directory, name = self.place(process, path)
        del self.inode(volume, directory).entries[name]
        self.inode(volume, number).links -= 1
        self.remove_if_unused(volume, number)

    def rename_path(self, process, old, new):
        self.process(process)
        volume, number = self.path(process, old)
        need(split(old)[2], Busy)
        _, directory, name = self.place(process, old)
        other, target, new_name = self.place(process, new)
        need(volume == other, CrossVolume)
        entries = self.inode(volume, target).entries
        there = entries.get(new_name)
        if there == number:
            return
        need(self.volumes[volume].writable, ReadOnly)
        need(there is None or not self.works_in(volume, there), Busy)
        self.check_move(volume, number, target, there)
        del self.inode(volume, directory).entries[name]
        entries[new_name] = number
        if self.inode(volume, number).kind == 2:
            self.inode(volume, number).parent = target
        if there is not None:
            if self.inode(volume, there).kind == 2:
                del self.volumes[volume].inodes[there]
            else:
                self.inode(volume, there).links -= 1
                self.remove_if_unused(volume, there)

    def check_move(self, volume, number, target, there):
        moved = self.inode(volume, number)
        if moved.kind == 2:
            above = target
            while above != 1:
                need(above != number, LoopFound)
                above = self.inode(volume, above).parent
        if there is not None:
            need(self.inode(volume, there).kind == moved.kind, WrongKind)
            need(not self.inode(volume, there).entries, NotEmpty)
        else:
            need(len(self.inode(volume, target).entries) < 100, TooMany)
        need(moved.kind == 1 or self.depth(volume, target) + 1 + self.height(volume, number) <= 8, TooMany)

    def give_path(self, process, path, owner):
        need(is_number(owner, 0, 255), NotValid)
        self.process(process)
        volume, number = self.path(process, path)
        need(self.volumes[volume].writable, ReadOnly)
        need(owner == 0 or owner in self.owners, Missing)
        inode = self.inode(volume, number)
        before = {other: self.usage(other) for other in self.owners}
        old, inode.owner = inode.owner, owner
        try:
            self.check_limits(before)
        except OverQuota:
            inode.owner = old
            raise

    # The calls of the module admin.

    def duplicate_file(self, process, descriptor):
        need(is_number(descriptor, 0, 7), NotValid)
        file = self.file(process, descriptor)
        row = self.processes[process]
        need(len(row.descriptors) < 8, TooMany)
        file.references += 1
        fresh = least(row.descriptors)
        row.descriptors[fresh] = row.descriptors[descriptor]
        return fresh

    def fork_process(self, process):
        row = self.process(process)
        need(len(self.processes) < 4, TooMany)
        fresh = least(self.processes)
        self.processes[fresh] = Process(row.owner, row.volume, row.directory, dict(row.descriptors))
        for number in row.descriptors.values():
            self.files[number].references += 1
        return fresh

    def end_process(self, process):
        for descriptor in sorted(self.process(process).descriptors):
            self.close(process, descriptor)
        del self.processes[process]

    def enter_directory(self, process, path):
        row = self.process(process)
        volume, number = self.path(process, path)
        need(self.inode(volume, number).kind == 2, WrongKind)
        row.volume, row.directory = volume, number

    def current_path(self, process):
        row = self.process(process)
        text, number = "", row.directory
        while number != 1:
            parent = self.inode(row.volume, number).parent
            names = [name for name, inode in self.inode(row.volume, parent).entries.items() if inode == number]
            text, number = "/" + names[0] + text, parent
        return "@" + row.volume + text

    def become(self, process, owner):
        need(is_number(owner, 0, 255), NotValid)
        row = self.process(process)
        need(owner == 0 or owner in self.owners, Missing)
        row.owner = owner

    def check_new(self, name):
        need(name not in self.volumes, Exists)
        need(len(self.volumes) < 8, TooMany)

    def create_volume(self, process, name):
        self.process(process)
        need(is_name(name), BadName)
        self.check_new(name)
        self.volumes[name] = Volume(True, "", {1: Inode(2, 0)})

    def create_snapshot(self, process, volume, name):
        self.process(process)
        need(is_name(name), BadName)
        need(volume in self.volumes, NoVolume)
        self.check_new(name)
        self.volumes[name] = Volume(False, volume, copy.deepcopy(self.volumes[volume].inodes))

    def create_clone(self, process, snapshot, name):
        self.process(process)
        need(is_name(name), BadName)
        need(snapshot in self.volumes, NoVolume)
        need(not self.volumes[snapshot].writable, WrongKind)
        self.check_new(name)
        before = {owner: self.usage(owner) for owner in self.owners}
        self.volumes[name] = Volume(True, snapshot, copy.deepcopy(self.volumes[snapshot].inodes))
        self.drop_orphans(self.volumes[name])
        try:
            self.check_limits(before)
        except OverQuota:
            del self.volumes[name]
            raise

    def is_used(self, name):
        return any(row.volume == name for row in [*self.files.values(), *self.processes.values()])

    def restore_volume(self, process, volume, snapshot):
        self.process(process)
        need(volume in self.volumes and snapshot in self.volumes, NoVolume)
        need(not self.is_used(volume), Busy)
        row, given = self.volumes[volume], self.volumes[snapshot]
        need(row.writable, ReadOnly)
        need(not given.writable and given.origin == volume, WrongKind)
        before, old = {owner: self.usage(owner) for owner in self.owners}, row.inodes
        row.inodes = copy.deepcopy(given.inodes)
        self.drop_orphans(row)
        try:
            self.check_limits(before)
        except OverQuota:
            row.inodes = old
            raise

    def delete_volume(self, process, name):
        self.process(process)
        need(name in self.volumes, NoVolume)
        need(not self.is_used(name), Busy)
        others = [row for other, row in self.volumes.items() if other != name]
        need(any(row.writable for row in others), Busy)
        need(all(row.origin != name for row in others), NotEmpty)
        del self.volumes[name]

    def show_volumes(self, process):
        self.process(process)
        return [(name, self.volumes[name].writable, self.volumes[name].origin)
                for name in sorted(self.volumes, key=order)]

    def put_owner(self, process, owner, parent, charge_limit, inode_limit):
        need(is_number(owner, 1, 255) and is_number(parent, 0, 255), NotValid)
        need(all(limit is None or is_number(limit, 0, 100000) for limit in (charge_limit, inode_limit)), NotValid)
        self.process(process)
        need(parent == 0 or parent in self.owners, Missing)
        need(owner not in self.chain(parent), LoopFound)
        need(owner in self.owners or len(self.owners) < 8, TooMany)
        self.owners[owner] = (parent, charge_limit, inode_limit)

    def delete_owner(self, process, owner):
        need(is_number(owner, 1, 255), NotValid)
        self.process(process)
        need(owner in self.owners, Missing)
        need(all(row.owner != owner for row in self.processes.values()), Busy)
        need(all(parent != owner for parent, _, _ in self.owners.values()), NotEmpty)
        inodes = [inode for volume in self.volumes.values() if volume.writable for inode in volume.inodes.values()]
        need(all(inode.owner != owner for inode in inodes), Busy)
        del self.owners[owner]

    def show_owners(self, process):
        self.process(process)
        return [(0, None, None, None)] + [(owner, *self.owners[owner]) for owner in sorted(self.owners)]

    def owner_usage(self, process, owner):
        need(is_number(owner, 0, 255), NotValid)
        self.process(process)
        return self.usage(owner)

    def sync_file(self, process, descriptor):
        need(is_number(descriptor, 0, 7), NotValid)
        self.file(process, descriptor)

    def sync_all(self, process):
        self.process(process)
