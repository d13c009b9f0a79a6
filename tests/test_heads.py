"""Heads: points [11] to [15]."""

import unittest

from laminae.disk import Disk, disk_from
from laminae.errors import BadImage, PowerOff
from laminae.heads import (
    FIRST_BLOCK, FIRST_SECTOR, LOG_BLOCKS, LOG_SECTORS, Head, is_valid_head, log_mark, place, present_head)

GREAT = 10 ** 120


def disk_with(sectors, blocks=96):
    """A disk on which these sectors, a dict, last."""
    return disk_from([list(sectors.get(sector, [0] * 8)) for sector in range(4 * blocks)])


def fields(head):
    """What a head says."""
    return head.generation, head.table, head.blocks


class HeadTest(unittest.TestCase):

    def test_constants(self):
        self.assertEqual((LOG_BLOCKS, FIRST_BLOCK, FIRST_SECTOR, LOG_SECTORS), (4, 5, 4, 16))

    def test_fields_and_sector(self):
        head = Head(3, (5, 2), 96)
        self.assertEqual(fields(head), (3, (5, 2), 96))
        self.assertEqual(head.sector(), [3, 5, 2, 4, 96, 0, 0, 3])
        self.assertEqual(Head(GREAT, (255, GREAT - 1), 256).sector(), [GREAT, 255, GREAT - 1, 4, 256, 0, 0, GREAT])

    def test_each_sector_is_a_new_list(self):
        head = Head(3, (5, 2), 96)
        head.sector()[0] = 7
        self.assertEqual(head.sector(), [3, 5, 2, 4, 96, 0, 0, 3])

    def test_place(self):
        self.assertEqual([place(generation) for generation in (0, 1, 2, 3, GREAT, GREAT + 1)], [0, 1, 0, 1, 0, 1])

    def test_is_valid_head(self):
        for generation in (1, 2, 3, GREAT, GREAT + 1):
            words = [generation, 5, 1, 4, 96, 0, 0, generation]
            before = list(words)
            self.assertIs(is_valid_head(generation % 2, words), True)
            self.assertIs(is_valid_head(1 - generation % 2, words), False)
            self.assertIs(is_valid_head(generation % 2, words[:7] + [generation + 2]), False)
            self.assertIs(is_valid_head(generation % 2, [generation + 2] + words[1:]), False)
            self.assertEqual(words, before)

    def test_the_words_between_do_not_matter(self):
        self.assertIs(is_valid_head(1, [3, 0, 0, 0, 0, 9, 9, 3]), True)
        self.assertIs(is_valid_head(0, [0] * 8), False)
        self.assertIs(is_valid_head(1, [0] * 8), False)
        self.assertIs(is_valid_head(0, [0, 5, 1, 4, 96, 0, 0, 0]), False)


class PresentHeadTest(unittest.TestCase):

    def assert_bad(self, sectors, blocks=96):
        with self.assertRaises(BadImage, msg=repr(sectors)):
            present_head(disk_with(sectors, blocks))

    def test_one_head(self):
        for generation in (1, 2, 3, GREAT, GREAT + 1):
            head = present_head(disk_with({generation % 2: Head(generation, (5, 1), 96).sector()}))
            self.assertIsInstance(head, Head)
            self.assertEqual(fields(head), (generation, (5, 1), 96))

    def test_two_heads(self):
        for generation in (2, 3, 8, GREAT):
            new = Head(generation, (95, generation), 96).sector()
            for older in (1, 3, generation - 1):
                if older < generation and older % 2 != generation % 2:
                    old = Head(older, (7, 1), 96).sector()
                    head = present_head(disk_with({generation % 2: new, older % 2: old}))
                    self.assertEqual(fields(head), (generation, (95, generation), 96))

    def test_the_older_head_may_say_anything(self):
        head = present_head(disk_with({0: [4, 9, 3, 4, 96, 0, 0, 4], 1: [3, 9999, 77, 5, 6, 7, 8, 3]}))
        self.assertEqual(fields(head), (4, (9, 3), 96))

    def test_the_bounds_of_the_table(self):
        for table in ((5, 1), (255, 4), (5, 4), (255, 1)):
            self.assertEqual(present_head(disk_with({0: Head(4, table, 256).sector()}, 256)).table, table)
        for table in ((4, 1), (0, 1), (256, 1), (GREAT, 1), (5, 0), (5, 5), (5, GREAT)):
            self.assert_bad({0: Head(4, table, 256).sector()}, 256)
        self.assert_bad({0: Head(4, (96, 1), 96).sector()}, 96)

    def test_no_valid_head(self):
        self.assert_bad({})
        self.assert_bad({1: Head(2, (5, 1), 96).sector(), 0: Head(3, (5, 1), 96).sector()})
        self.assert_bad({0: [2, 5, 1, 4, 96, 0, 0, 0]})
        self.assert_bad({0: [0, 5, 1, 4, 96, 0, 0, 2]})
        self.assert_bad({2: Head(2, (5, 1), 96).sector()})

    def test_the_last_word_at_the_other_place(self):
        head = Head(4, (9, 3), 96).sector()
        for last in (0, 1, 2, 3):
            self.assertEqual(present_head(disk_with({0: head, 1: [5, 0, 0, 0, 0, 0, 0, last]})).generation, 4)
        for last in (4, 6, 7, GREAT):
            self.assert_bad({0: head, 1: [5, 0, 0, 0, 0, 0, 0, last]})
        self.assert_bad({0: head, 1: [3, 9, 3, 4, 96, 0, 0, 5]})

    def test_the_other_words(self):
        right = [4, 9, 3, 4, 96, 0, 0, 4]
        for at, value in ((3, 3), (3, 5), (3, 0), (4, 95), (4, 97), (4, 0), (5, 1), (6, 1), (5, GREAT), (6, GREAT)):
            wrong = list(right)
            wrong[at] = value
            self.assert_bad({0: wrong})
        self.assert_bad({0: right}, 97)
        self.assertEqual(fields(present_head(disk_with({0: right}))), (4, (9, 3), 96))

    def test_the_mark_of_the_log(self):
        for sector in range(4, 20):
            disk = disk_with({0: [4, 9, 3, 4, 96, 0, 0, 4], sector: [9] * 7 + [4]})
            self.assertEqual(present_head(disk).generation, 4)
            self.assertEqual(log_mark(disk), 4)
            self.assert_bad({0: [4, 9, 3, 4, 96, 0, 0, 4], sector: [0] * 7 + [5]})
        for sector in (2, 3, 20):
            disk = disk_with({0: [4, 9, 3, 4, 96, 0, 0, 4], sector: [9] * 8})
            self.assertEqual(present_head(disk).generation, 4)
            self.assertEqual(log_mark(disk), 0)

    def test_the_mark_is_the_greatest_word(self):
        sectors = {sector: [99] * 7 + [(sector * 7) % 17] for sector in range(4, 20)}
        self.assertEqual(log_mark(disk_with(sectors)), 16)
        sectors[11] = [0] * 7 + [GREAT]
        self.assertEqual(log_mark(disk_with(sectors)), GREAT)

    def test_the_waiting_writes_are_read(self):
        disk = disk_with({0: Head(4, (9, 3), 96).sector()})
        disk.write(1, Head(5, (10, 5), 96).sector())
        disk.write(8, [0] * 7 + [5])
        self.assertEqual(fields(present_head(disk)), (5, (10, 5), 96))
        self.assertEqual(log_mark(disk), 5)

    def test_without_power(self):
        disk = disk_with({0: Head(4, (9, 3), 96).sector()})
        disk.fail_after(0)
        with self.assertRaises(PowerOff):
            disk.flush()
        with self.assertRaises(PowerOff):
            present_head(disk)
        with self.assertRaises(PowerOff):
            log_mark(disk)

    def test_a_torn_write_of_the_next_head(self):
        for generation in (1, 2, 3, 8, GREAT, GREAT + 1):
            for choice in range(9):
                old = Head(generation, (9, 1), 96)
                new = Head(generation + 1, (20, generation + 1), 96)
                disk = Disk(96)
                if generation > 1:
                    disk.write(place(generation - 1), Head(generation - 1, (8, 1), 96).sector())
                disk.write(place(generation), old.sector())
                disk.flush()
                disk.write(place(generation + 1), new.sector())
                disk.cut([choice])
                present = new if choice == 8 else old
                self.assertEqual(fields(present_head(disk)), fields(present))
                torn = disk.read(place(generation + 1))
                self.assertIs(is_valid_head(place(generation + 1), torn), choice == 8 or (choice == 0 < generation - 1))
                if 0 < choice < 8:
                    self.assertEqual(torn[0], generation + 1)
                    self.assertLess(torn[7], generation)


if __name__ == "__main__":
    unittest.main()
