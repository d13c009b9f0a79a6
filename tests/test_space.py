"""Space: points [22] to [25]."""

import unittest

from laminae.errors import NoSpace, NotValid
from laminae.space import ADD, REMOVE, Space


def space_with(used, blocks=96):
    """A space whose blocks 0 to 4 and these others have one use."""
    return Space([1 if block < 5 or block in used else 0 for block in range(blocks)])


def everything(space):
    """All that can be seen of a space."""
    rows = [(space.uses(block), space.is_held(block), space.is_new(block), space.is_free(block))
            for block in range(space.blocks)]
    return rows, space.free(), space.pending(), space.least_free()


class SpaceTest(unittest.TestCase):

    def test_constants(self):
        self.assertEqual((ADD, REMOVE), (60, 20))

    def test_a_new_space(self):
        uses = [1] * 5 + [2, 0, 3] + [0] * 88
        space = Space(uses)
        self.assertEqual(space.blocks, 96)
        self.assertEqual([space.uses(block) for block in range(96)], uses)
        self.assertEqual([space.is_held(block) for block in range(96)], [count > 0 for count in uses])
        self.assertEqual((space.free(), space.pending(), space.least_free()), (89, 0, 6))
        self.assertEqual(Space([1] * 5 + [0] * 251).blocks, 256)

    def test_the_list_is_copied(self):
        uses = [1] * 5 + [0] * 91
        space = Space(uses)
        space.take(0)
        self.assertEqual(uses, [1] * 5 + [0] * 91)
        uses[5] = 7
        uses[6] = 7
        self.assertEqual((space.uses(5), space.uses(6)), (1, 0))

    def test_the_example_of_the_interface(self):
        space = space_with([5])
        self.assertEqual(space.take(0), 6)
        self.assertEqual(space.drop(5), 0)
        self.assertEqual((space.uses(5), space.is_held(5), space.pending()), (0, True, 1))
        self.assertEqual(space.take(0), 7)
        space.settle()
        self.assertEqual([block for block in range(96) if space.uses(block)], [0, 1, 2, 3, 4, 6, 7])
        self.assertEqual(space.free(), 89)
        self.assertEqual(space.take(0), 5)

    def test_the_four_states(self):
        space = space_with([5, 6])
        space.take(0)
        space.drop(6)
        answers = {
            5: (1, True, False, False), 6: (0, True, False, False), 7: (1, False, True, False),
            8: (0, False, False, True), 0: (1, True, False, False), 4: (1, True, False, False)}
        for block, answer in answers.items():
            found = (space.uses(block), space.is_held(block), space.is_new(block), space.is_free(block))
            self.assertEqual(found, answer)
            self.assertEqual([type(value) for value in found[1:]], [bool] * 3)
        self.assertEqual((space.free(), space.pending()), (88, 1))

    def test_a_new_block_keeps_being_new_with_more_uses(self):
        space = space_with([])
        space.take(0)
        space.share(5)
        self.assertEqual((space.uses(5), space.is_new(5)), (2, True))
        self.assertEqual((space.drop(5), space.drop(5)), (1, 0))
        self.assertEqual((space.is_new(5), space.is_free(5), space.free()), (False, True, 91))
        self.assertEqual(space.take(0), 5)

    def test_the_least_free_block_is_taken(self):
        space = space_with([5, 7, 9])
        self.assertEqual([space.take(0) for _ in range(4)], [6, 8, 10, 11])
        space.drop(8)
        self.assertEqual(space.least_free(), 8)
        self.assertEqual([space.take(0) for _ in range(2)], [8, 12])
        self.assertEqual([space.uses(block) for block in (6, 8, 12)], [1, 1, 1])

    def test_reserves(self):
        for reserve in (0, 1, 20, 60, 90):
            space = space_with([])
            while space.free() > reserve + 1:
                space.take(0)
            before = everything(space)
            with self.assertRaises(NoSpace):
                space.take(reserve + 1)
            self.assertEqual(everything(space), before)
            self.assertEqual(space.take(reserve), 96 - reserve - 1)
            before = everything(space)
            for greater in (reserve, reserve + 1, 10 ** 20):
                with self.assertRaises(NoSpace):
                    space.take(greater)
            self.assertEqual(everything(space), before)

    def test_a_full_space(self):
        space = space_with(range(96))
        self.assertEqual((space.free(), space.pending()), (0, 0))
        self.assertIs(space.least_free(), None)
        with self.assertRaises(NoSpace):
            space.take(0)
        space.drop(50)
        self.assertIs(space.least_free(), None)
        with self.assertRaises(NoSpace):
            space.take(0)
        space.settle()
        self.assertEqual((space.least_free(), space.take(0)), (50, 50))

    def test_share_and_drop(self):
        space = space_with([5])
        self.assertIs(space.share(5), None)
        space.share(5)
        self.assertEqual([space.uses(5), space.drop(5), space.drop(5), space.drop(5)], [3, 2, 1, 0])
        before = everything(space)
        for block in (5, 6, 0, 1, 2, 3, 4, -1, -91, 96, 97, 10 ** 20):
            with self.assertRaises(NotValid):
                space.share(block)
            with self.assertRaises(NotValid):
                space.drop(block)
        self.assertEqual(everything(space), before)

    def test_blocks_that_do_not_exist(self):
        space = space_with([])
        for block in (-1, -96, 96, 97, 256, 10 ** 20):
            for question in (space.uses, space.is_held, space.is_new, space.is_free):
                with self.assertRaises(NotValid):
                    question(block)
        self.assertEqual(space.uses(95), 0)

    def test_settling(self):
        space = space_with([5, 6, 7])
        space.drop(6)
        space.share(7)
        self.assertEqual([space.take(0), space.take(0)], [8, 9])
        space.drop(9)
        space.settle()
        self.assertEqual([block for block in range(96) if space.is_held(block)], [0, 1, 2, 3, 4, 5, 7, 8])
        self.assertEqual([space.uses(block) for block in range(4, 11)], [1, 1, 0, 2, 1, 0, 0])
        self.assertEqual((space.free(), space.pending(), space.least_free()), (88, 0, 6))
        self.assertFalse(space.is_new(8))

    def test_a_held_block_does_not_become_free_before_it_is_settled(self):
        space = space_with(range(5, 95))
        for block in range(5, 95):
            space.drop(block)
        self.assertEqual((space.free(), space.pending(), space.take(0)), (1, 90, 95))
        with self.assertRaises(NoSpace):
            space.take(0)
        space.settle()
        self.assertEqual((space.free(), space.pending()), (90, 0))

    def test_saved_and_restored(self):
        space = space_with([5, 6])
        space.take(0)
        space.drop(6)
        before = everything(space)
        saved = space.saved()
        for _ in range(2):
            self.assertEqual([space.take(0), space.take(0)], [8, 9])
            space.share(5)
            space.drop(7)
            space.settle()
            self.assertEqual(space.take(0), 6)
            self.assertNotEqual(everything(space), before)
            space.restore(saved)
            self.assertEqual(everything(space), before)

    def test_another_space_can_be_restored_from_the_value(self):
        space = space_with([5, 6])
        space.drop(6)
        other = space_with([])
        other.restore(space.saved())
        self.assertEqual(everything(other), everything(space))
        other.take(0)
        self.assertNotEqual(everything(other), everything(space))


if __name__ == "__main__":
    unittest.main()
