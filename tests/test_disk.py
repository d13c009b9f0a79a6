"""The disk: points [6] to [10]."""

import copy
import itertools
import unittest

from laminae.disk import BLOCK_WORDS, MAX_BLOCKS, MIN_BLOCKS, SECTOR_WORDS, Disk, disk_from
from laminae.errors import BadImage, NotValid, PowerOff

ZEROS = [0] * 8


def words_of(number):
    """Eight different words that tell which write they come from."""
    return [number * 100 + k for k in range(8)]


def everything(disk):
    """All that can be seen of a disk at any time."""
    return disk.image(), disk.lasting(), disk.waiting()


class MakingTest(unittest.TestCase):

    def test_constants(self):
        self.assertEqual((MIN_BLOCKS, MAX_BLOCKS, SECTOR_WORDS, BLOCK_WORDS), (96, 256, 8, 32))

    def test_sizes(self):
        for blocks in (96, 97, 255, 256):
            disk = Disk(blocks)
            self.assertEqual(disk.blocks, blocks)
            self.assertEqual(disk.image(), [ZEROS] * (4 * blocks))
            self.assertEqual(disk.lasting(), [ZEROS] * (4 * blocks))
            self.assertEqual(disk.waiting(), [])
            self.assertEqual(disk.read(4 * blocks - 1), ZEROS)

    def test_wrong_sizes(self):
        for blocks in (95, 257, 0, -96, True, False, None, "96", 96.0, [96], 10 ** 30):
            with self.assertRaises(NotValid, msg=repr(blocks)):
                Disk(blocks)

    def test_sectors_of_a_new_disk_are_different_lists(self):
        disk = Disk(96)
        disk.write(3, words_of(1))
        disk.flush()
        self.assertEqual(disk.read(4), ZEROS)


class DiskFromTest(unittest.TestCase):

    def test_a_right_image(self):
        for blocks in (96, 256):
            image = [words_of(sector) for sector in range(4 * blocks)]
            image[7] = [10 ** 300] * 8
            disk = disk_from(image)
            self.assertEqual(disk.blocks, blocks)
            self.assertEqual(everything(disk), (image, image, []))
            disk.cut([])
            self.assertEqual(disk.image(), image)

    def test_the_image_is_copied(self):
        image = [words_of(sector) for sector in range(384)]
        before = copy.deepcopy(image)
        disk = disk_from(image)
        disk.write(0, ZEROS)
        disk.flush()
        self.assertEqual(image, before)
        image[5][0] = 77
        image[6] = ZEROS
        self.assertEqual(disk.read(5), before[5])
        self.assertEqual(disk.read(6), before[6])

    def test_the_power_is_on(self):
        disk = disk_from([list(ZEROS) for _ in range(384)])
        for sector in range(384):
            disk.write(sector, words_of(sector))
        disk.flush()
        self.assertEqual(disk.read(383), words_of(383))

    def test_wrong_numbers_of_sectors(self):
        for many in (0, 4, 95 * 4, 96 * 4 - 1, 96 * 4 + 1, 96 * 4 + 2, 96 * 4 + 3, 256 * 4 + 1, 257 * 4):
            with self.assertRaises(BadImage, msg=many):
                disk_from([list(ZEROS) for _ in range(many)])

    def test_what_is_no_list(self):
        for image in (None, 384, "image", tuple(list(ZEROS) for _ in range(384)), {}, True):
            with self.assertRaises(BadImage):
                disk_from(image)

    def test_wrong_sectors(self):
        wrong = [None, 0, "12345678", tuple(ZEROS), [0] * 7, [0] * 9, [], [0] * 7 + [-1], [True] + [0] * 7]
        wrong += [[0] * 3 + [None] + [0] * 4, [0] * 7 + ["0"], [0] * 7 + [False]]
        for sector in wrong:
            for at in (0, 200, 383):
                image = [list(ZEROS) for _ in range(384)]
                image[at] = sector
                with self.assertRaises(BadImage, msg=repr(sector)):
                    disk_from(image)


class WaitingTest(unittest.TestCase):

    def test_reads_before_and_after_a_flush(self):
        disk = Disk(96)
        disk.write(9, words_of(1))
        self.assertEqual(disk.read(9), words_of(1))
        self.assertEqual(disk.lasting()[9], ZEROS)
        self.assertEqual(disk.image()[9], words_of(1))
        self.assertEqual(disk.waiting(), [(9, words_of(1))])
        disk.flush()
        self.assertEqual(disk.read(9), words_of(1))
        self.assertEqual(disk.lasting()[9], words_of(1))
        self.assertEqual(disk.image(), disk.lasting())
        self.assertEqual(disk.waiting(), [])

    def test_the_writes_last_in_their_order(self):
        disk = Disk(96)
        for number, sector in enumerate((5, 6, 5, 0, 6, 383)):
            disk.write(sector, words_of(number))
        self.assertEqual(disk.waiting(), [
            (sector, words_of(number)) for number, sector in enumerate((5, 6, 5, 0, 6, 383))])
        image = disk.image()
        disk.flush()
        self.assertEqual(disk.lasting(), image)
        self.assertEqual((disk.read(5), disk.read(6)), (words_of(2), words_of(4)))
        self.assertEqual((disk.read(0), disk.read(383)), (words_of(3), words_of(5)))
        disk.write(5, ZEROS)
        disk.flush()
        self.assertEqual(disk.lasting()[5], ZEROS)

    def test_great_words(self):
        disk = Disk(96)
        disk.write(5, [10 ** 200 + k for k in range(8)])
        disk.flush()
        self.assertEqual(disk.read(5), [10 ** 200 + k for k in range(8)])

    def test_what_is_passed_is_copied(self):
        disk = Disk(96)
        words = words_of(1)
        disk.write(9, words)
        words[0] = 5
        self.assertEqual(disk.read(9), words_of(1))
        self.assertEqual(disk.waiting(), [(9, words_of(1))])
        disk.flush()
        words[1] = 5
        self.assertEqual(disk.lasting()[9], words_of(1))
        choices = [3, 8]
        disk.write(9, ZEROS)
        disk.cut(choices)
        self.assertEqual(choices, [3, 8])

    def test_what_is_returned_is_copied(self):
        disk = Disk(96)
        disk.write(8, words_of(3))
        disk.flush()
        disk.write(9, words_of(1))
        before = everything(disk)
        for returned in (disk.read(8), disk.read(9), disk.waiting()[0][1]):
            returned[0] = 5
        for returned in (disk.image(), disk.lasting()):
            returned[8][0] = 5
            returned[9][0] = 5
            returned[7] = None
        disk.waiting().append(None)
        self.assertEqual(everything(disk), before)
        kept = disk.image(), disk.lasting(), disk.waiting(), disk.read(9)
        copied = copy.deepcopy(kept)
        disk.write(9, words_of(2))
        disk.cut([8, 4])
        self.assertEqual(kept, copied)

    def test_wrong_arguments_change_nothing(self):
        disk = Disk(96)
        disk.write(9, words_of(1))
        before = everything(disk)
        for sector in (-1, 384, True, False, None, "9", 9.0):
            with self.assertRaises(NotValid):
                disk.read(sector)
            with self.assertRaises(NotValid):
                disk.write(sector, words_of(2))
        wrong = (None, tuple(ZEROS), [0] * 7, [0] * 9, [0] * 7 + [-1], [0] * 7 + [True], [None] + [0] * 7, "00000000")
        for words in wrong:
            with self.assertRaises(NotValid):
                disk.write(9, words)
        for choices in (None, 8, (8,), [9], [-1], [True], [8, False], ["8"], [None], "8", [8, 8, 9], {}):
            with self.assertRaises(NotValid):
                disk.cut(choices)
        self.assertEqual(everything(disk), before)


class CutTest(unittest.TestCase):

    def test_the_example_of_the_interface(self):
        disk = Disk(96)
        disk.write(9, [1, 2, 3, 4, 5, 6, 7, 8])
        disk.write(9, [9, 9, 9, 9, 9, 9, 9, 9])
        self.assertEqual(disk.read(9), [9] * 8)
        disk.cut([8, 3])
        self.assertEqual(disk.read(9), [9, 9, 9, 4, 5, 6, 7, 8])
        self.assertEqual(disk.lasting(), disk.image())
        self.assertEqual(disk.waiting(), [])

    def test_each_choice(self):
        for choice in range(9):
            disk = Disk(96)
            disk.write(9, words_of(1))
            disk.flush()
            disk.write(9, words_of(2))
            disk.cut([choice])
            self.assertEqual(disk.read(9), words_of(2)[:choice] + words_of(1)[choice:])
            self.assertEqual(disk.lasting()[9], disk.read(9))
            self.assertEqual(disk.waiting(), [])

    def test_torn_writes_on_top_of_one_another(self):
        for choices in itertools.product(range(9), repeat=3):
            disk = Disk(96)
            expected = list(ZEROS)
            for number, choice in enumerate(choices):
                disk.write(9, words_of(number + 1))
                expected = words_of(number + 1)[:choice] + expected[choice:]
            disk.cut(list(choices))
            self.assertEqual(disk.read(9), expected)

    def test_fewer_and_more_choices_than_waiting_writes(self):
        for choices in ([], [8], [8, 8], [8, 8, 8], [8, 8, 8, 8, 0, 3]):
            disk = Disk(96)
            for sector in (7, 8, 9):
                disk.write(sector, words_of(sector))
            disk.cut(choices)
            kept = [disk.read(sector) == words_of(sector) for sector in (7, 8, 9)]
            self.assertEqual(kept, [at < len(choices) for at in range(3)])
            self.assertEqual(disk.image(), disk.lasting())
            self.assertEqual(disk.waiting(), [])

    def test_a_cut_without_choices_leaves_what_lasted(self):
        disk = Disk(96)
        disk.write(8, words_of(1))
        disk.flush()
        lasting = disk.lasting()
        disk.write(8, words_of(2))
        disk.write(10, words_of(3))
        self.assertEqual(disk.lasting(), lasting)
        disk.cut([])
        self.assertEqual(everything(disk), (lasting, lasting, []))

    def test_a_cut_that_keeps_all_is_a_flush(self):
        disk, flushed = Disk(96), Disk(96)
        for number, sector in enumerate((5, 6, 5, 0, 6, 383)):
            disk.write(sector, words_of(number))
            flushed.write(sector, words_of(number))
        disk.cut([8] * 6)
        flushed.flush()
        self.assertEqual(everything(disk), everything(flushed))

    def test_a_cut_without_waiting_writes_changes_nothing(self):
        disk = Disk(96)
        disk.write(8, words_of(1))
        disk.flush()
        before = everything(disk)
        disk.cut([3, 8, 0])
        self.assertEqual(everything(disk), before)


class PowerTest(unittest.TestCase):

    def assert_off(self, disk):
        """Check that the power is off, and that nothing changes because of it."""
        before = everything(disk)
        for _ in range(2):
            with self.assertRaises(PowerOff):
                disk.read(9)
            with self.assertRaises(PowerOff):
                disk.write(9, words_of(5))
            with self.assertRaises(PowerOff):
                disk.flush()
        self.assertEqual(everything(disk), before)

    def test_the_number_of_the_failing_operation(self):
        for count in range(7):
            for flushed in range(7):
                disk = Disk(96)
                disk.fail_after(count)
                done = []
                with self.assertRaises(PowerOff):
                    for number in range(20):
                        disk.read(number)
                        if number == flushed:
                            disk.flush()
                        else:
                            disk.write(number, words_of(number))
                        done.append(number)
                self.assertEqual(len(done), count)
                written = [(number, words_of(number)) for number in done if number > flushed or flushed >= count]
                self.assertEqual(disk.waiting(), written)
                self.assert_off(disk)

    def test_a_flush_that_fails_is_not_performed(self):
        disk = Disk(96)
        disk.write(9, words_of(1))
        disk.fail_after(0)
        with self.assertRaises(PowerOff):
            disk.flush()
        self.assertEqual(disk.lasting()[9], ZEROS)
        self.assertEqual(disk.image()[9], words_of(1))
        self.assertEqual(disk.waiting(), [(9, words_of(1))])
        self.assert_off(disk)

    def test_reads_do_not_count(self):
        disk = Disk(96)
        disk.fail_after(1)
        for _ in range(5):
            disk.read(3)
        disk.write(3, words_of(1))
        for _ in range(5):
            disk.read(3)
        with self.assertRaises(PowerOff):
            disk.write(3, words_of(2))

    def test_refused_calls_do_not_count(self):
        disk = Disk(96)
        disk.fail_after(1)
        for _ in range(3):
            with self.assertRaises(NotValid):
                disk.write(384, words_of(1))
            with self.assertRaises(NotValid):
                disk.write(3, [0])
        disk.write(3, words_of(1))
        with self.assertRaises(PowerOff):
            disk.flush()

    def test_a_later_setting_replaces_an_earlier_one(self):
        disk = Disk(96)
        disk.fail_after(0)
        disk.fail_after(2)
        disk.write(3, words_of(1))
        disk.fail_after(2)
        disk.write(3, words_of(2))
        disk.flush()
        with self.assertRaises(PowerOff):
            disk.flush()
        disk.cut([])
        disk.fail_after(0)
        disk.fail_after(None)
        for _ in range(10):
            disk.flush()

    def test_the_greatest_count(self):
        disk = Disk(96)
        disk.fail_after(100000)
        for _ in range(100000):
            disk.flush()
        with self.assertRaises(PowerOff):
            disk.flush()

    def test_wrong_counts_change_nothing(self):
        disk = Disk(96)
        disk.fail_after(1)
        for count in (-1, 100001, True, False, "0", 1.0, [0]):
            with self.assertRaises(NotValid):
                disk.fail_after(count)
        disk.flush()
        with self.assertRaises(PowerOff):
            disk.flush()

    def test_a_setting_does_not_turn_the_power_on(self):
        for later in (None, 0, 5):
            disk = Disk(96)
            disk.fail_after(0)
            with self.assertRaises(PowerOff):
                disk.flush()
            disk.fail_after(later)
            self.assert_off(disk)
            disk.cut([])
            for _ in range(10):
                disk.flush()

    def test_a_cut_removes_what_was_set(self):
        disk = Disk(96)
        disk.write(9, words_of(1))
        disk.fail_after(0)
        disk.cut([8])
        disk.write(9, words_of(2))
        disk.flush()
        self.assertEqual(disk.lasting()[9], words_of(2))

    def test_a_cut_turns_the_power_on(self):
        disk = Disk(96)
        disk.write(9, words_of(1))
        disk.write(10, words_of(2))
        disk.fail_after(0)
        with self.assertRaises(PowerOff):
            disk.write(11, words_of(3))
        with self.assertRaises(NotValid):
            disk.cut([9])
        self.assert_off(disk)
        disk.cut([8, 4])
        self.assertEqual(disk.read(9), words_of(1))
        self.assertEqual(disk.read(10), words_of(2)[:4] + [0] * 4)
        self.assertEqual(disk.read(11), ZEROS)
        disk.write(9, ZEROS)
        disk.flush()

    def test_which_exception_comes_first(self):
        disk = Disk(96)
        disk.fail_after(0)
        with self.assertRaises(PowerOff):
            disk.flush()
        with self.assertRaises(PowerOff):
            disk.read(384)
        with self.assertRaises(NotValid):
            disk.write(384, ZEROS)
        with self.assertRaises(NotValid):
            disk.write(0, [0] * 7)
        with self.assertRaises(NotValid):
            disk.fail_after(-1)
        with self.assertRaises(NotValid):
            disk.cut([9])
        self.assert_off(disk)

    def test_some_methods_answer_without_power(self):
        disk = Disk(96)
        disk.write(9, words_of(1))
        before = everything(disk)
        disk.fail_after(0)
        with self.assertRaises(PowerOff):
            disk.write(9, words_of(2))
        self.assertEqual(everything(disk), before)
        self.assertEqual(disk.blocks, 96)


if __name__ == "__main__":
    unittest.main()
