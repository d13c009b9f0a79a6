"""Power failures at any disk operation of calls of all kinds: [136], [103], [8], [9], [15], [41], [42] and [143]."""

import random
import unittest

from cases import copy_of
from laminae.checks import check
from laminae.errors import LaminaError, NoSpace, PowerOff
from laminae.system import System, call_names
from model import Model
from traffic import Traffic

TABLE_CALLS = {
    "create_volume", "create_snapshot", "create_clone", "restore_volume", "delete_volume", "put_owner", "delete_owner"}


class PowerCase(unittest.TestCase):

    def start(self, seed):
        """Begin with a system; `states` has its states after each call, `low` says which of them lasts."""
        self.chance = random.Random(seed)
        self.system = System(96)
        self.states, self.low, self.cuts = [self.system.state()], 0, 0

    def patterns(self, many):
        """What may become of so many waiting writes."""
        return [
            [], [8] * many, [self.chance.randint(1, 7) for _ in range(many)],
            [self.chance.choice([0, 8, 8, 3]) for _ in range(many)]]

    def ask(self, name, process, *given):
        """Make a call with power failures ahead of each of its operations, and then without one."""
        before, generation = copy_of(self.system), self.system.session.store.head.generation
        done = False
        try:
            self.system.ask(name, process, *given)
            done = True
        except NoSpace:
            return False
        except LaminaError:
            pass
        self.states.append(self.system.state())
        last = len(self.states) - 1
        for count in range(10 ** 6):
            system = copy_of(before)
            session = system.session
            system.fail_after(count)
            try:
                system.ask(name, process, *given)
                break
            except PowerOff:
                self.assertIs(system.session, None)
            except LaminaError:
                break
            # A commit that was completed in the call covers the calls before.
            committed = session.store.head.generation > generation
            self.check_cuts(system, last - 1 if committed else self.low)
        if self.system.session.store.head.generation > generation:
            self.low = last if done and name in TABLE_CALLS else last - 1
        if done and name in ("sync_file", "sync_all"):
            self.low = last
        return True

    def check_cuts(self, failed, low):
        """Cut a system whose power has failed in several ways; its state must be one from `low` on."""
        for choices in self.patterns(len(failed.disk.waiting())):
            system = copy_of(failed)
            system.cut(choices)
            check(system.image())
            if self.chance.random() < 0.3:
                self.fail_in_mount(system)
            if system.session is None:
                system.mount()
            state = system.state()
            self.assertIn(state, self.states[low:])
            self.assertEqual(check(system.image()), (state, True))
            self.cuts += 1

    def fail_in_mount(self, system):
        """Let the power fail while a system is mounted, and cut it."""
        system.fail_after(self.chance.randrange(25))
        try:
            system.mount()
        except PowerOff:
            system.cut(self.chance.choice(self.patterns(len(system.disk.waiting()))))
            check(system.image())

    def check_now(self):
        """Check what lasts if the power fails between two calls."""
        system = copy_of(self.system)
        system.cut([])
        system.mount()
        self.assertIn(system.state(), self.states[self.low:])


class SequenceTest(PowerCase):

    CALLS = [
        ("make_directory", "d"), ("open_file", "d/a", "rwm"), ("write_cells", 0, [1] * 40), ("sync_file", 0),
        ("sync_all",), ("put_owner", 1, 0, None, None), ("give_path", "d/a", 1), ("link_file", "d/a", "b"),
        ("sync_file", 0), ("create_snapshot", "main", "s"), ("write_cells", 0, [2] * 40), ("unlink_file", "d/a"),
        ("unlink_file", "b"), ("sync_file", 0), ("create_clone", "s", "c"), ("rename_path", "@c/b", "@c/d/z"),
        ("open_file", "@c/x", "wm"), ("share_units", 0, 0, 0, 1, 1), ("close_file", 0), ("sync_file", 1),
        ("rename_path", "@c/x", "@c/d/z"), ("resize", 1, 70), ("create_snapshot", "c", "t"), ("close_file", 1),
        ("rename_path", "@c/d/a", "@c/d/z"), ("make_directory", "@c/e"), ("remove_directory", "@c/e"), ("sync_all",),
        ("restore_volume", "c", "t"), ("create_volume", "v"), ("fork_process",), ("enter_directory", "@v"), ("open_file", "y", "wm"),
        ("unlink_file", "y"), ("end_process",)]

    def test_calls_of_all_kinds(self):
        self.start(1)
        for name, *given in self.CALLS:
            self.assertTrue(self.ask(name, 0, *given))
            self.check_now()
        for name, *given in (
                ("delete_volume", "c"), ("delete_volume", "t"), ("delete_owner", 1), ("delete_volume", "c"),
                ("delete_owner", 1), ("sync_all",)):
            self.assertTrue(self.ask(name, 1, *given))
        self.assertEqual((len(self.system.state()[0]), self.system.state()[1]), (3, []))
        self.assertGreater(self.cuts, 1000)
        # Each of the calls that change something gave another state.
        self.assertGreater(len([1 for one, two in zip(self.states, self.states[1:]) if one != two]), 20)

    def test_the_commit_before_a_call(self):
        self.start(2)
        self.ask("open_file", 0, "a", "rwm")
        self.ask("open_file", 0, "b", "rwm")
        for at in range(6):
            self.assertTrue(self.ask("write_cells", 0, at % 2, [at + 1] * 33))
        # With 96 blocks there are always fewer than 100 free ones, so calls commit what was done before them.
        self.assertGreater(self.low, 3)


class ChanceTest(PowerCase):

    def test_calls_by_chance(self):
        names = call_names() + ["sync_file"] * 4
        for seed in range(5):
            self.start(seed)
            model = Model()
            traffic = Traffic(self.chance, model, names, sizes=(0, 1, 3, 33))
            for _ in range(70):
                name, process, given = traffic.call()
                if not self.ask(name, process, *given):
                    break
                try:
                    getattr(model, name)(process, *given)
                except LaminaError:
                    pass
                self.assertEqual(self.system.state(), model.state())
                if not model.processes:
                    break
                self.check_now()


if __name__ == "__main__":
    unittest.main()
