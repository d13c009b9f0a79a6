"""Calls by chance, most of them with arguments that make sense at the moment, for a model of the file system."""

NAMES = ["a", "b", "c", "d.x"]
VOLUMES = ["main", "s1", "s2", "v", "k"]
MODES = [
    "r", "rw", "wr", "wrm", "rwm", "rwm", "rwm", "rwmn", "wc", "rwa", "cmrw", "wam", "arwm", "rwmcan",
    "n", "x", "rr", "m", "rm", "rn", "", "rc", "ra", "wn", "R"]
WEIGHTS = {
    "open_file": 14, "close_file": 6, "write_cells": 10, "share_units": 6, "make_directory": 7, "remove_directory": 3,
    "link_file": 5, "unlink_file": 6, "rename_path": 10, "give_path": 4, "resize": 4, "put_owner": 3,
    "create_snapshot": 2, "create_clone": 2, "restore_volume": 2, "fork_process": 1, "end_process": 0.5, "become": 3}


class Traffic:
    """Chooses calls; `chance` is a random.Random, `model` a Model."""

    def __init__(self, chance, model, names, sizes=(0, 1, 3, 31, 32, 33, 70), **weights):
        self.chance, self.model, self.sizes = chance, model, sizes
        self.names = [name for name in names if name != "room"]
        weights = {**WEIGHTS, **weights}
        self.weights = [weights.get(name, 1) for name in self.names]

    def call(self):
        """A name, a process and arguments."""
        name = self.chance.choices(self.names, self.weights)[0]
        return name, self.process(), getattr(self, name)()

    def often(self, share):
        return self.chance.random() < share

    def process(self):
        return self.chance.choice(list(self.model.processes)) if self.often(0.98) else self.chance.choice([-1, 3, 99])

    def number(self, low, high):
        if self.often(0.03):
            return self.chance.choice([low - 1, high + 1, -10 ** 20, 10 ** 20])
        return self.chance.choice([low, high]) if self.often(0.05) else self.chance.randint(low, high)

    def descriptor(self):
        used = [descriptor for row in self.model.processes.values() for descriptor in row.descriptors]
        return self.chance.choice(used) if used and self.often(0.9) else self.number(0, 7)

    def place(self):
        """A path to something that is there, as far as it is chosen by that."""
        name = self.chance.choice(list(self.model.volumes))
        at, names = 1, []
        while self.often(0.75) and self.model.volumes[name].inodes[at].kind == 2:
            entries = self.model.volumes[name].inodes[at].entries
            if not entries:
                break
            names.append(self.chance.choice(list(entries)))
            at = entries[names[-1]]
        return "/".join([f"@{name}", *names])

    def path(self):
        if self.often(0.45):
            return self.place()
        if self.often(0.5):
            return self.place() + "/" + self.chance.choice(NAMES)
        names = [self.chance.choice(NAMES) for _ in range(self.chance.choice([0, 1, 1, 1, 1, 2, 3]))]
        if self.often(0.05):
            names.append(self.chance.choice(["", "..", "UP", "x" * 12]))
        return self.chance.choice(["", "", "", "/", "@no/", "@", "//"][:4 if self.often(0.9) else 7]) + "/".join(names)

    def volume(self):
        return self.chance.choice(VOLUMES) if self.often(0.97) else self.chance.choice(["BAD", "", "@main", "no"])

    def owner(self):
        return self.number(0, 4) if self.often(0.97) else self.chance.choice([255, 256, -1])

    def limit(self):
        return self.chance.choice([None, None, None, 0, 5, 12, 30, 100000] + [100001, -1] * self.often(0.05))

    def unit(self, high):
        return self.chance.randint(0, 3) if self.often(0.95) else self.number(0, high)

    def open_file(self):
        return self.path(), self.chance.choice(MODES[:14] if self.often(0.93) else MODES)

    def close_file(self):
        return (self.descriptor(),)

    describe_open = duplicate_file = sync_file = close_file

    def read_cells(self):
        return self.descriptor(), self.number(0, 100) if self.often(0.8) else self.number(0, 2048)

    def write_cells(self):
        cells = [self.chance.choice([0, 0, 7, 10 ** 20]) for _ in range(self.chance.choice(self.sizes))]
        if self.often(0.02):
            cells = [5] * self.chance.choice([2048, 2049]) if self.often(0.5) else [1, -1]
        return self.descriptor(), cells

    def move_to(self):
        return self.descriptor(), self.number(0, 150) if self.often(0.9) else self.number(2040, 2048)

    resize = move_to

    def share_units(self):
        first, at = self.unit(63), self.unit(63)
        return self.descriptor(), first, self.descriptor(), at, self.number(1, 3) if self.often(0.9) else 64 - at

    def describe(self):
        return (self.path(),)

    list_directory = make_directory = remove_directory = unlink_file = enter_directory = describe

    def rename_path(self):
        return self.path(), self.path()

    def link_file(self):
        used = [(name, volume.inodes) for name, volume in self.model.volumes.items() if volume.writable]
        files = [f"@{name}/{entry}" for name, inodes in used for entry, inode in inodes[1].entries.items()
                 if inodes[inode].kind == 1]
        if not files or self.often(0.5):
            return self.rename_path()
        path = self.chance.choice(files)
        return path, path.partition("/")[0] + "/" + "/".join(self.chance.choices(NAMES, k=self.chance.choice([1, 2])))

    def give_path(self):
        return self.path(), self.owner()

    def nothing(self):
        return ()

    fork_process = end_process = current_path = show_volumes = show_owners = sync_all = nothing

    def become(self):
        return (self.owner(),)

    owner_usage = become

    def create_volume(self):
        return (self.volume(),)

    delete_volume = create_volume

    def create_snapshot(self):
        return self.volume(), self.volume()

    def create_clone(self):
        origin, snapshot = self.restore_volume()
        return snapshot, self.volume()

    def restore_volume(self):
        """A volume with a snapshot of it, if there is one."""
        rows = [(volume.origin, name) for name, volume in self.model.volumes.items() if not volume.writable]
        return self.chance.choice(rows) if rows and self.often(0.7) else self.create_snapshot()

    def put_owner(self):
        return self.number(1, 4), self.owner(), self.limit(), self.limit()

    def delete_owner(self):
        owners = list(self.model.owners)
        return (self.chance.choice(owners) if owners and self.often(0.8) else self.number(1, 4),)
