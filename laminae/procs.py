"""Processes: who they are, where they work, and which open files their descriptors name."""

from laminae.errors import BadHandle, LaminaError, NoProcess, TooMany
from laminae.handles import close_open_file
from laminae.inodes import ROOT

MAX_PROCESSES = 4
MAX_DESCRIPTORS = 8
FIRST_OWNER = 0


def least_unused(numbers):
    """Return the least number from 0 on that is not among these."""
    least = 0
    while least in numbers:
        least += 1
    return least


class Processes:
    """For each process its owner and its working directory, and for each of its descriptors an open file."""

    def __init__(self, volume):
        """Begin with process 0 in the root directory of a volume."""
        self._places = {0: (FIRST_OWNER, volume, ROOT)}
        self._descriptors = {0: {}}

    def list_processes(self):
        """Return each process with all that it has, in ascending order."""
        return [(process, *self._places[process], self.list_descriptors(process)) for process in sorted(self._places)]

    def list_descriptors(self, process):
        """Return each descriptor of a process with the number of its open file, in ascending order."""
        used = self._used(process)
        return [(descriptor, used[descriptor]) for descriptor in sorted(used)]

    def look_up(self, process):
        """Return the owner, the volume and the directory of a process."""
        if process not in self._places:
            raise NoProcess()
        return self._places[process]

    def set_owner(self, process, owner):
        """Let a process have another owner."""
        _, volume, directory = self.look_up(process)
        self._places[process] = (owner, volume, directory)

    def set_directory(self, process, volume, directory):
        """Let a process work in another directory."""
        owner, _, _ = self.look_up(process)
        self._places[process] = (owner, volume, directory)

    def has_room(self, process):
        """Tell whether a process can use one more descriptor."""
        return len(self._used(process)) < MAX_DESCRIPTORS

    def add_descriptor(self, process, number):
        """Let a process use one more descriptor, for an open file, and return it."""
        if not self.has_room(process):
            raise TooMany()
        used = self._used(process)
        descriptor = least_unused(used)
        used[descriptor] = number
        return descriptor

    def find_open_file(self, process, descriptor):
        """Return the number of the open file that a descriptor names."""
        used = self._used(process)
        if descriptor not in used:
            raise BadHandle()
        return used[descriptor]

    def drop_descriptor(self, process, descriptor):
        """End the use of a descriptor, and return the number of its open file."""
        number = self.find_open_file(process, descriptor)
        del self._descriptors[process][descriptor]
        return number

    def works_in(self, volume, directory):
        """Tell whether a process has this working directory."""
        return any(place[1:] == (volume, directory) for place in self._places.values())

    def uses_volume(self, volume):
        """Tell whether the working directory of a process is in this volume."""
        return any(place[1] == volume for place in self._places.values())

    def uses_owner(self, owner):
        """Tell whether a process has this owner."""
        return any(place[0] == owner for place in self._places.values())

    def copy_process(self, process):
        """Make a process that has what another one has, and return its number."""
        place = self.look_up(process)
        if len(self._places) >= MAX_PROCESSES:
            raise TooMany()
        copy = least_unused(self._places)
        self._places[copy] = place
        self._descriptors[copy] = dict(self._descriptors[process])
        return copy

    def remove_process(self, process):
        """Forget a process and its descriptors."""
        del self._places[process]
        del self._descriptors[process]

    def _used(self, process):
        """Return the descriptors of a process with their open files, as they are kept."""
        self.look_up(process)
        return self._descriptors[process]


def fork(handles, processes, process):
    """Make a process that has what another one has, its open files included; return its number."""
    copy = processes.copy_process(process)
    for _, number in processes.list_descriptors(copy):
        handles.add_reference(number)
    return copy


def duplicate(handles, processes, process, descriptor):
    """Return a new descriptor for the open file that another descriptor names."""
    number = processes.find_open_file(process, descriptor)
    if not processes.has_room(process):
        raise TooMany()
    handles.add_reference(number)
    return processes.add_descriptor(process, number)


def close_descriptor(store, accounts, handles, processes, process, descriptor):
    """Close a descriptor; return the volume and the inode if an inode was removed, otherwise None."""
    number = processes.find_open_file(process, descriptor)
    # Closing can still fail, without power; nothing may have changed then.
    removed = close_open_file(store, accounts, handles, number)
    processes.drop_descriptor(process, descriptor)
    return removed


def leave(store, accounts, handles, processes, process):
    """End a process; return the volume and the inode of each inode that was removed."""
    descriptors = processes.list_descriptors(process)
    saved = handles.saved()
    try:
        closed = [close_open_file(store, accounts, handles, number) for _, number in descriptors]
    except LaminaError:
        handles.restore(saved)
        raise
    processes.remove_process(process)
    return [removed for removed in closed if removed is not None]
