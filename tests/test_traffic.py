"""Many calls by chance, compared with a plain model of the whole file system: points [110] to [131], [1] and [2]."""

import random
import unittest

from cases import SystemCase, copy_of, outcome
from helpers import fill, usages
from laminae.checks import check
from laminae.errors import NoSpace
from laminae.handles import find_orphans
from laminae.system import call_names
from model import Model
from traffic import Traffic

OWNERS = (0, 1, 2, 3, 4, 5, 255)


class TrafficCase(SystemCase):

    def start(self, seed, blocks=256, **given):
        SystemCase.start(self, blocks)
        self.chance, self.model = random.Random(seed), Model()
        self.traffic = Traffic(self.chance, self.model, call_names(), **given)

    def assert_same(self, given):
        """Compare the system with the model."""
        session = self.session
        self.assertEqual(self.system.state(), self.model.state(), given)
        self.assertEqual(session.handles.open_files(), self.model.open_files(), given)
        self.assertEqual(session.processes.list_processes(), self.model.list_processes(), given)
        for owner in OWNERS:
            self.assertEqual(session.accounts.usage(owner), self.model.usage(owner), given)

    def mount_again(self):
        """Make everything last, and mount the disk again, after a cut or after unmounting."""
        self.session.commit_changes()
        if outcome(self.system.unmount)[0] == "raised":
            self.system.cut([])
        self.system.mount()
        self.model.mounted()
        self.assertEqual(check(self.system.image()), (self.model.state(), True))

    def is_orphan_left(self):
        """Whether a file without a name is not open: there was no room for its removal."""
        opened = {row[1:3] for row in self.session.handles.open_files()}
        volumes = [name for name, volume in self.model.volumes.items() if volume.writable]
        return any((name, inode) not in opened for name in volumes for inode in find_orphans(self.store, name))


class ModelTest(TrafficCase):

    def test_calls_by_chance(self):
        done, refused = {}, {}
        for seed in range(12):
            self.start(seed)
            for step in range(450):
                if not self.model.processes or self.chance.random() < 0.004:
                    self.mount_again()
                name, process, given = self.traffic.call()
                passed = copy_of(given)
                before = self.session.changes
                found = outcome(self.system.ask, name, process, *given)
                if found[1] is NoSpace:
                    break
                expected = outcome(getattr(self.model, name), process, *given)
                self.assertEqual(found, expected, (seed, step, name, process, given))
                self.assertEqual(given, passed)
                self.assert_same((seed, step, name, process, given))
                counts = done if found[0] == "returned" else refused
                counts[name] = counts.get(name, 0) + 1
                if found[0] == "raised" and len(before) <= len(self.session.changes):
                    self.assertEqual(self.session.changes, before)
                if step % 15 == 0:
                    self.assert_all()
        # Each call was done several times, and was refused several times if it can be.
        self.assertEqual(set(done), set(call_names()) - {"room"})
        self.assertTrue(all(count > 2 for count in done.values()), done)
        self.assertGreater(len(refused), 30)


class FullTest(TrafficCase):

    def test_calls_with_little_room(self):
        full = 0
        for seed in range(30):
            self.start(seed, 96, sizes=(1, 33, 100, 200, 500), write_cells=40, open_file=30, restore_volume=1)
            for step in range(120):
                if not self.model.processes:
                    break
                name, process, given = self.traffic.call()
                kept = copy_of(self.model)
                state = self.system.state()
                memory = self.session.handles.open_files(), self.session.processes.list_processes()
                usage = usages(self.session.accounts)
                found = outcome(self.system.ask, name, process, *given)
                expected = outcome(getattr(self.model, name), process, *given)
                if found[1] is NoSpace:
                    full += 1
                    self.model = self.traffic.model = kept
                    self.assertEqual(self.system.state(), state)
                    self.assertEqual(usages(self.session.accounts), usage)
                    self.assertEqual(
                        (self.session.handles.open_files(), self.session.processes.list_processes()), memory)
                    self.assertNotIn(name, ("delete_volume", "delete_owner", "close_file", "end_process", "sync_all"))
                else:
                    self.assertEqual(found, expected, (seed, step, name, process, given))
                if self.is_orphan_left():
                    break
                self.assert_same((seed, step, name, process, given))
                if step % 15 == 0:
                    self.assert_all()
        self.assertGreater(full, 60)

    def test_orphans_that_are_left(self):
        for seed in range(10):
            self.start(seed)
            for name in ("a", "b"):
                self.make_file(name, [1] * 100)
                self.ask("open_file", name, "rw")
                self.ask("unlink_file", name)
            self.session.commit_changes()
            saved = self.store.saved()
            fill(self.store, 20 + seed // 2)
            for descriptor in (0, 1):
                self.ask("close_file", descriptor)
            left = find_orphans(self.store, "main")
            charge = 1 + 5 * len(left)
            self.assertEqual(self.ask("owner_usage", 0), (charge, 1 + len(left)))
            if left == [2, 3]:
                self.store.restore(saved)
                self.assert_all()
                state = self.system.state()
                self.mount_again_with(state)

    def mount_again_with(self, state):
        self.system.unmount()
        self.assertEqual(check(self.system.image()), (state, True))
        self.system.mount()
        self.assertEqual((find_orphans(self.store, "main"), self.system.state()), ([], state))
        self.assertEqual(self.ask("owner_usage", 0), (1, 1))


if __name__ == "__main__":
    unittest.main()
