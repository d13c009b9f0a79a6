"""The checker: points [138] to [143]."""

import random
import unittest

from cases import GREAT, MAIN, SystemCase, copy_of
from helpers import counted_uses
from images import disk_of, inner, leaf, with_sector, with_words, words_of
from laminae.checks import check, reached, sound_items, volume_state
from laminae.commits import commit
from laminae.disk import disk_from
from laminae.errors import BadImage
from laminae.heads import log_mark
from laminae.intents import Log, play
from laminae.mounts import make_disk, mount
from laminae.system import state_of
from laminae.volumes import drop_volume, waiting_roots
from laminae.words import name_word

A, B, C, D = (name_word(name) for name in "abcd")
ROOT_RECORD = ((1, 1, 0), (2, 1, 0, 0))
NEW_STATE = ([("main", True, "", [(1, 2, 1, 0, 0, [])])], [])


def image_of(blocks, table=(5, 1), generation=1, size=96):
    """The sectors of a disk with these blocks."""
    return disk_of(blocks, table, generation, size).image()


class SoundTest(unittest.TestCase):

    def items(self, *keys):
        """Items with these inodes."""
        return [((key, 1, 0), (key, 0, 0, GREAT)) for key in keys]

    def tree(self, **changes):
        """The blocks of a sound tree of height 3 with the root 5, with other words for some of them."""
        items = self.items
        blocks = {
            5: inner(5, 3, [((1, 1, 0), (6, 3)), ((7, 1, 0), (7, 2))]),
            6: inner(6, 3, [((1, 1, 0), (8, 1)), ((3, 1, 0), (9, 3))]),
            7: inner(7, 2, [((7, 1, 0), (10, 2)), ((9, 1, 0), (11, 1)), ((13, 1, 0), (12, 2))]),
            8: leaf(8, 1, items(1, 2)), 9: leaf(9, 3, items(3, 4, 5, 6)), 10: leaf(10, 2, items(7, 8)),
            11: leaf(11, 1, items(9, 10, 12)), 12: leaf(12, 2, items(13, 14))}
        blocks.update({int(name[1:]): words for name, words in changes.items()})
        return blocks

    def refuse(self, blocks, root=(5, 3), generation=3, size=96):
        image = image_of(blocks, root, 3, size)
        before = copy_of(image)
        with self.assertRaises(BadImage):
            sound_items(image, root, generation)
        self.assertEqual(image, before)

    def test_sound_trees(self):
        image = image_of(self.tree(), (5, 3), 3)
        expected = self.items(1, 2, 3, 4, 5, 6, 7, 8, 9, 10, 12, 13, 14)
        for generation in (3, 4, GREAT):
            self.assertEqual(sound_items(image, (5, 3), generation), expected)
        self.assertEqual(sound_items(image, (6, 3), 3), expected[:6])
        self.assertEqual(sound_items(image, (7, 2), 2), expected[6:])
        self.assertEqual(sound_items(image, (8, 1), 1), expected[:2])
        for items in ([], self.items(4), self.items(1, 2, 3, 4)):
            self.assertEqual(sound_items(image_of({9: leaf(9, 1, items)}), (9, 1), 1), items)

    def test_what_values_hold_does_not_matter(self):
        items = [((0, kind, 1), (GREAT, 0, GREAT, 7)) for kind in (3, 4, 6)]
        self.assertEqual(sound_items(image_of({9: leaf(9, 1, items)}), (9, 1), 1), items)

    def test_own_numbers_and_births(self):
        items = self.items
        for changes in (
                {"n8": leaf(9, 1, items(1, 2))}, {"n8": leaf(8, 2, items(1, 2))}, {"n7": words(self.tree(), 7, 2, 8)},
                {"n7": words(self.tree(), 7, 3, 1)}, {"n5": words(self.tree(), 5, 2, 6)},
                {"n5": words(self.tree(), 5, 3, 2)}):
            self.refuse(self.tree(**changes))
        self.refuse(self.tree(), (5, 2))
        self.refuse(self.tree(), (5, 4), 4)

    def test_births_and_numbers_that_cannot_be(self):
        self.refuse(self.tree(), generation=2)
        self.refuse({9: leaf(9, 2, [])}, (9, 2), 1)
        self.assertEqual(sound_items(image_of({9: leaf(9, 2, [])}, (9, 2), 2), (9, 2), 2), [])
        blocks = {5: leaf(5, 3, [])}
        for number in (0, 4, 96, 100, 255, 256, GREAT):
            for birth in (0, 1, 3):
                self.refuse(blocks, (number, birth))
        for number in (4, 96, 255):
            self.refuse(self.tree(n6=inner(6, 3, [((1, 1, 0), (8, 1)), ((3, 1, 0), (number, 3))])))
        last = leaf(95, 3, self.items(3, 4))
        blocks = self.tree(n6=inner(6, 3, [((1, 1, 0), (8, 1)), ((3, 1, 0), (95, 3))]), n95=last)
        self.assertEqual(len(sound_items(image_of(blocks, (5, 3), 3), (5, 3), 3)), 11)

    def test_blocks_that_are_no_nodes(self):
        for number in (5, 6, 8, 12):
            for at, word in ((0, 0), (0, 3), (1, 5), (1, 6), (31, 1), (3, 0)):
                if (number, at, word) == (5, 1, 5):
                    continue
                self.refuse(self.tree(**{f"n{number}": words(self.tree(), number, at, word)}))

    def test_too_few_items(self):
        items = self.items
        self.refuse(self.tree(n8=leaf(8, 1, items(1))))
        self.refuse(self.tree(n12=leaf(12, 2, items(13))))
        self.refuse(self.tree(n8=leaf(8, 1, [])))
        self.refuse(self.tree(n6=inner(6, 3, [((1, 1, 0), (8, 1))])))
        self.refuse(self.tree(n5=inner(5, 3, [((1, 1, 0), (6, 3))])))
        self.refuse(self.tree(n5=inner(5, 3, [])))
        self.refuse({5: inner(5, 3, [((1, 1, 0), (8, 1))]), 8: leaf(8, 1, items(1, 2))})

    def test_depths(self):
        self.refuse(self.tree(n5=inner(5, 3, [((1, 1, 0), (8, 1)), ((7, 1, 0), (7, 2))])))
        self.refuse(self.tree(n6=inner(6, 3, [((1, 1, 0), (8, 1)), ((7, 1, 0), (7, 2))])))

    def test_keys(self):
        items = self.items
        for changes in (
                {"n8": leaf(8, 1, items(2, 1))}, {"n8": leaf(8, 1, items(1, 1))}, {"n8": leaf(8, 1, items(1, 3))},
                {"n8": leaf(8, 1, items(1, 4))}, {"n9": leaf(9, 3, items(3, 4, 7))}, {"n9": leaf(9, 3, items(3, 8))},
                {"n9": leaf(9, 3, items(4, 5))}, {"n8": leaf(8, 1, items(0, 1))}, {"n10": leaf(10, 2, items(8, 9))},
                {"n11": leaf(11, 1, items(9, 12, 13))}, {"n12": leaf(12, 2, items(12, 14))}):
            self.refuse(self.tree(**changes))
        for number, at, word in (
                (5, 4, 0), (5, 4, 2), (5, 5, 0), (5, 6, 1), (5, 9, 6), (5, 9, 8), (6, 4, 0), (6, 9, 2), (6, 9, 4),
                (7, 4, 6), (7, 9, 11), (7, 14, 12)):
            self.refuse(self.tree(**{f"n{number}": words(self.tree(), number, at, word)}))

    def test_blocks_that_are_reached_twice(self):
        self.refuse(self.tree(n6=inner(6, 3, [((1, 1, 0), (8, 1)), ((3, 1, 0), (8, 1))])))
        self.refuse(self.tree(n6=inner(6, 3, [((1, 1, 0), (6, 3)), ((3, 1, 0), (9, 3))])))
        self.refuse(self.tree(n5=inner(5, 3, [((1, 1, 0), (5, 3)), ((7, 1, 0), (5, 3))])))
        self.refuse(self.tree(n7=inner(7, 2, [((7, 1, 0), (10, 2)), ((9, 1, 0), (10, 2)), ((13, 1, 0), (12, 2))])))


    def test_nodes_that_lead_to_themselves(self):
        blocks = {at: inner(at, 3, [((at, 1, 0), (at, 3)), ((at + 1, 1, 0), (at + 1, 3))]) for at in range(5, 95)}
        self.refuse({**blocks, 95: inner(95, 3, [((95, 1, 0), (95, 3)), ((96, 1, 0), (5, 3))])})


def words(blocks, number, at, word):
    """The words of a block with another one at an index."""
    return blocks[number][:at] + [word] + blocks[number][at + 1:]


DATA = {
    20: [7] * 32, 21: [7] * 8 + [0] * 24, 22: [0] * 32, 23: [0] * 9 + [1] + [0] * 22, 24: [7] + [0] * 31}
ITEMS = [
    ((1, 1, 0), (2, 1, 3, 0)), ((1, 2, A), (2, 1, 0, 0)), ((1, 2, B), (3, 2, 0, 0)), ((1, 2, C), (2, 1, 0, 0)),
    ((2, 1, 0), (1, 3, 40, 7)), ((2, 3, 0), (20, 1, 0, 0)), ((2, 3, 1), (21, 1, 0, 0)),
    ((3, 1, 0), (2, 1, 2, 0)), ((3, 2, A), (2, 1, 0, 0)), ((3, 2, D), (6, 2, 0, 0)),
    ((4, 1, 0), (1, 0, 70, 0)), ((4, 3, 1), (20, 1, 0, 0)), ((6, 1, 0), (2, 3, 0, 255))]


class VolumeTest(unittest.TestCase):

    def setUp(self):
        self.image = image_of(DATA)

    def changed(self, changes, items=ITEMS):
        """Items with other values; those with the value None are left out."""
        found = dict(items)
        found.update(changes)
        return sorted((key, value) for key, value in found.items() if value is not None)

    def refuse(self, changes, items=ITEMS):
        items = self.changed(changes, items)
        before = copy_of((items, self.image))
        with self.assertRaises(BadImage, msg=changes):
            volume_state(self.image, items)
        self.assertEqual((items, self.image), before)

    def accept(self, changes, items=ITEMS):
        return volume_state(self.image, self.changed(changes, items))

    def test_what_is_shown(self):
        expected = [
            (1, 2, 1, 3, 0, [("a", 2), ("b", 3), ("c", 2)]), (2, 1, 3, 40, 7, [(0, [7] * 32), (1, [7] * 8 + [0] * 24)]),
            (3, 2, 1, 2, 0, [("a", 2), ("d", 6)]), (6, 2, 3, 0, 255, [])]
        self.assertEqual(volume_state(self.image, list(ITEMS)), expected)
        self.assertEqual(volume_state(self.image, [ROOT_RECORD]), [(1, 2, 1, 0, 0, [])])

    def test_keys(self):
        self.refuse({(0, 1, 0): (1, 0, 0, 0)})
        for kind in (0, 4, 5, 6, 7, GREAT):
            self.refuse({(4, kind, 0): (20, 1, 0, 0)})
            self.refuse({(3, kind, A): (2, 1, 0, 0)})

    def test_records(self):
        for inode in (1, 2, 3, 4, 6):
            self.refuse({(inode, 1, 0): None})
            self.refuse({(inode, 1, 1): (1, 0, 0, 0)})
        self.refuse({(4, 1, 0): None, (4, 1, 1): (1, 0, 70, 0)})
        self.refuse({(9, 2, A): (2, 1, 0, 0)})
        self.refuse({(9, 3, 0): (20, 1, 0, 0)})
        self.refuse({}, [])

    def test_bounds_of_files(self):
        for value in ((0, 0, 70, 0), (3, 0, 70, 0), (1, 61, 70, 0), (1, 0, 2049, 0), (1, 0, 70, 256), (1, 1, 70, 0),
                      (GREAT, 0, 70, 0), (1, 0, GREAT, 0), (1, 0, 70, GREAT)):
            self.refuse({(4, 1, 0): value})
        for value in ((1, 0, 64, 0), (1, 0, 2048, 255), (1, 0, 70, 255)):
            self.accept({(4, 1, 0): value})

    def linked(self, many):
        """Items with a file that has so many names in the root directory."""
        names = sorted(name_word(f"n{at}") for at in range(many))
        return [((1, 1, 0), (2, 1, many, 0)), *[((1, 2, name), (2, 1, 0, 0)) for name in names],
                ((2, 1, 0), (1, many, 0, 0))]

    def test_many_names(self):
        self.assertEqual(self.accept({}, self.linked(60))[1], (2, 1, 60, 0, 0, []))
        self.refuse({}, self.linked(61))
        items = self.linked(60) + [((1, 2, name_word(f"x{at}")), (3, 1, 0, 0)) for at in range(40)]
        self.accept({(1, 1, 0): (2, 1, 100, 0), (3, 1, 0): (1, 40, 0, 0)}, items)
        self.refuse({(1, 1, 0): (2, 1, 101, 0), (3, 1, 0): (1, 41, 0, 0), (1, 2, A): (3, 1, 0, 0)}, items)

    def test_bounds_of_directories(self):
        for value in ((2, 3, 0, 256), (2, 3, 0, GREAT), (2, 3, 101, 0), (2, 3, 1, 0)):
            self.refuse({(6, 1, 0): value})
        # An inode of another kind, which its entry has, too.
        for kind in (0, 3, GREAT):
            self.refuse({(6, 1, 0): (kind, 3, 0, 255), (3, 2, D): (6, kind, 0, 0)})

    def test_the_root(self):
        for value in ((2, 3, 3, 0), (2, 0, 3, 0), (2, 2, 3, 0), (1, 1, 3, 0)):
            self.refuse({(1, 1, 0): value})
        self.refuse({}, [((1, 1, 0), (1, 0, 0, 0))])
        self.refuse({}, [((2, 1, 0), (2, 2, 0, 0))])
        self.refuse({}, [((2, 1, 0), (1, 0, 0, 0))])
        # No entry leads to the root.
        self.refuse({(6, 2, A): (1, 2, 0, 0), (6, 1, 0): (2, 3, 1, 255)})
        self.refuse({(1, 2, D): (1, 2, 0, 0), (1, 1, 0): (2, 1, 4, 0)})

    def test_entries(self):
        # An entry of a file.
        self.refuse({(4, 2, A): (2, 1, 0, 0), (2, 1, 0): (1, 4, 40, 7)})
        # Names that are none.
        for name in (0, 2, A + 1, 40 ** 11, GREAT):
            self.refuse({(6, 2, name): (2, 1, 0, 0), (6, 1, 0): (2, 3, 1, 255), (2, 1, 0): (1, 4, 40, 7)})
        self.accept({(6, 2, A): (2, 1, 0, 0), (6, 1, 0): (2, 3, 1, 255), (2, 1, 0): (1, 4, 40, 7)})
        # Values of another form.
        for value in ((2, 2, 0, 0), (2, 0, 0, 0), (2, 1, 1, 0), (2, 1, 0, 1), (5, 1, 0, 0), (5, 2, 0, 0), (0, 1, 0, 0)):
            self.refuse({(3, 2, A): value})
        self.refuse({(3, 2, D): (6, 1, 0, 0)})

    def test_numbers_of_entries(self):
        for many in (1, 3, 0):
            self.refuse({(3, 1, 0): (2, 1, many, 0)})
        self.refuse({(1, 1, 0): (2, 1, 2, 0)})
        self.refuse({(6, 1, 0): (2, 3, 1, 255)})

    def test_numbers_of_names(self):
        for links in (0, 1, 2, 4, 60):
            self.refuse({(2, 1, 0): (1, links, 40, 7)})
        self.refuse({(1, 2, C): (4, 1, 0, 0)})
        self.accept({(1, 2, C): (4, 1, 0, 0), (4, 1, 0): (1, 1, 70, 0), (2, 1, 0): (1, 2, 40, 7)})

    def test_names_of_directories(self):
        # No name.
        self.refuse({(3, 2, D): None, (3, 1, 0): (2, 1, 1, 0)})
        # Two names.
        self.refuse({(3, 2, C): (6, 2, 0, 0), (3, 1, 0): (2, 1, 3, 0)})
        self.refuse({(1, 2, D): (6, 2, 0, 0), (1, 1, 0): (2, 1, 4, 0)})
        # A name in another directory.
        for parent in (1, 6, 5, 2, 0, GREAT):
            self.refuse({(6, 1, 0): (2, parent, 0, 255)})

    def chain(self, many):
        """Items with so many directories, each within the one before."""
        items = []
        for at in range(1, many + 1):
            items += [((at, 1, 0), (2, max(at - 1, 1), 1, 0)), ((at, 2, A), (at + 1, 2, 0, 0))]
        return items + [((many + 1, 1, 0), (2, max(many, 1), 0, 0))]

    def test_the_way_to_the_root(self):
        for many in range(9):
            self.assertEqual(len(self.accept({}, self.chain(many))), many + 1)
        for many in (9, 10, 20):
            self.refuse({}, self.chain(many))
        # Directories that lead back to each other.
        self.refuse({
            (7, 1, 0): (2, 8, 1, 0), (7, 2, A): (8, 2, 0, 0), (8, 1, 0): (2, 7, 1, 0), (8, 2, A): (7, 2, 0, 0)})
        self.refuse({(7, 1, 0): (2, 7, 1, 0), (7, 2, A): (7, 2, 0, 0)})

    def test_units(self):
        # Of a directory, and of an inode without a record.
        for number in (20, 24):
            self.refuse({(3, 3, 0): (number, 1, 0, 0)})
            self.refuse({(1, 3, 0): (number, 1, 0, 0)})
        # At the end of the file and behind it.
        self.refuse({(4, 3, 3): (20, 1, 0, 0)})
        self.refuse({(4, 3, GREAT): (20, 1, 0, 0)})
        self.refuse({(4, 1, 0): (1, 0, 32, 0)})
        self.refuse({(4, 1, 0): (1, 0, 72, 0), (4, 3, 3): (21, 1, 0, 0)})
        self.accept({(4, 1, 0): (1, 0, 64, 0)})
        self.accept({(4, 1, 0): (1, 0, 2048, 0), (4, 3, 63): (20, 1, 0, 0)})
        self.refuse({(4, 1, 0): (1, 0, 2048, 0), (4, 3, 64): (20, 1, 0, 0)})
        # Values of another form.
        for value in ((20, 1, 1, 0), (20, 1, 0, 1), (20, 1, 0, GREAT)):
            self.refuse({(4, 3, 1): value})
        for number in (0, 4, 96, 255, GREAT):
            self.refuse({(4, 3, 1): (number, 1, 0, 0)})
        for birth in (0, 7, GREAT):
            self.accept({(4, 3, 1): (20, birth, 0, 0)})

    def test_cells(self):
        # Only zeros.
        self.refuse({(4, 3, 1): (22, 1, 0, 0)})
        self.refuse({(4, 3, 1): (90, 1, 0, 0)})
        # Cells behind the end of the file.
        self.refuse({(4, 3, 2): (20, 1, 0, 0)})
        self.refuse({(4, 3, 2): (21, 1, 0, 0)})
        self.refuse({(4, 3, 2): (23, 1, 0, 0)})
        for length, good in ((72, True), (71, False), (73, True), (65, False), (96, True)):
            changes = {(4, 1, 0): (1, 0, length, 0), (4, 3, 2): (21, 1, 0, 0)}
            self.accept(changes) if good else self.refuse(changes)
        self.accept({(4, 1, 0): (1, 0, 96, 0), (4, 3, 2): (20, 1, 0, 0)})
        self.refuse({(4, 1, 0): (1, 0, 95, 0), (4, 3, 2): (20, 1, 0, 0)})
        self.refuse({(4, 1, 0): (1, 0, 73, 0), (4, 3, 2): (23, 1, 0, 0)})
        self.accept({(4, 1, 0): (1, 0, 74, 0), (4, 3, 2): (23, 1, 0, 0)})

    def test_larger_images(self):
        image = image_of({255: [5] * 32}, size=256)
        items = [((1, 1, 0), (2, 1, 0, 0)), ((2, 1, 0), (1, 0, 32, 0)), ((2, 3, 0), (255, 1, 0, 0))]
        self.assertEqual(volume_state(image, items), [(1, 2, 1, 0, 0, [])])
        with self.assertRaises(BadImage):
            volume_state(image_of({}, size=255), items)


class TableTest(unittest.TestCase):

    def image(self, items, blocks=None):
        """An image with these items in the table; block 9 is an empty volume."""
        items = sorted(items)
        found = {9: leaf(9, 1, [ROOT_RECORD]), **(blocks or {})}
        if len(items) <= 4:
            found[5] = leaf(5, 1, items)
            return image_of(found)
        parts = [items[at:at + 3] for at in range(0, len(items) - 1, 3)]
        parts[-1] = items[3 * len(parts) - 3:]
        for at, part in enumerate(parts):
            found[40 + at] = leaf(40 + at, 1, part)
        rows = [(part[0][0], (40 + at, 1)) for at, part in enumerate(parts)]
        found[5] = inner(5, 1, rows[:5])
        if len(rows) > 5:
            found[60], found[61] = inner(60, 1, rows[:3]), inner(61, 1, rows[3:])
            found[5] = inner(5, 1, [(rows[0][0], (60, 1)), (rows[3][0], (61, 1))])
        return image_of(found)

    def accept(self, *items):
        return check(self.image(items))

    def refuse(self, *items):
        for call in (check, reached):
            with self.assertRaises(BadImage, msg=items):
                call(self.image(items))

    def volume(self, name, flags=1, origin=0):
        return ((0, 4, name), (9, 1, flags, origin))

    def test_forms(self):
        main = self.volume(MAIN)
        self.assertEqual(self.accept(main), (NEW_STATE, True))
        for key in ((0, 0, 0), (0, 1, 0), (0, 2, A), (0, 5, 0), (0, 7, 1), (1, 1, 0), (1, 5, 1)):
            self.refuse(main, (key, (0, 0, 0, 0)))
        for key in ((0, 3, 0), (1, 4, A), (1, 3, 0), (1, 6, 1)):
            self.refuse(main, (key, (9, 1, 1, 0)))
        self.refuse()

    def test_volumes(self):
        main = self.volume(MAIN)
        for name in (0, 2, A + 1, 40 ** 11, GREAT):
            self.refuse(main, self.volume(name))
        for flags in (2, 3, GREAT):
            self.refuse(main, self.volume(A, flags))
        self.refuse(self.volume(MAIN, 0))
        self.refuse(self.volume(MAIN, 0), self.volume(A, 0, MAIN))
        row = NEW_STATE[0][0]
        self.assertEqual(
            self.accept(self.volume(MAIN, 0), self.volume(A, 1, MAIN)),
            (([("a", True, "main", row[3]), ("main", False, "", row[3])], []), True))
        for origin in (A, B, 1, GREAT, A + 1):
            self.refuse(main, self.volume(A, 0, origin))
        self.refuse(self.volume(MAIN, 1, MAIN))
        self.accept(self.volume(MAIN, 1, A), self.volume(A, 0, MAIN))
        names = [name_word(f"v{at}") for at in range(9)]
        self.assertEqual(len(self.accept(*[self.volume(name) for name in names[:8]])[0][0]), 8)
        self.refuse(*[self.volume(name) for name in names])

    def test_owners(self):
        main = self.volume(MAIN)

        def owner(number, parent=0, charge=0, inodes=0, last=0):
            return ((0, 5, number), (parent, charge, inodes, last))

        self.assertEqual(
            self.accept(main, owner(1, 255, 0, 1), owner(2, 1, 1, 100001), owner(255, 0, 100001, 6))[0][1],
            [(1, 255, None, 0), (2, 1, 0, 100000), (255, 0, 100000, 5)])
        for row in (owner(0), owner(256), owner(GREAT), owner(1, 2), owner(1, 256), owner(1, 1), owner(1, 0, 100002),
                    owner(1, 0, 0, 100002), owner(1, 0, GREAT), owner(1, 0, 0, 0, 1)):
            self.refuse(main, row)
        self.refuse(main, owner(1, 2), owner(2, 1))
        self.refuse(main, owner(1, 2), owner(2, 3), owner(3, 2))
        chain = [owner(number, number - 1) for number in range(1, 10)]
        self.assertEqual(len(self.accept(main, *chain[:8])[0][1]), 8)
        self.refuse(main, *chain)
        self.assertEqual(len(self.accept(main, *[owner(at) for at in range(11, 19)])[0][1]), 8)
        self.refuse(main, *[owner(at) for at in range(11, 20)])
        self.refuse(main, *[owner(at, 1 + at % 8) for at in range(1, 9)])

    def test_waiting_roots(self):
        main = self.volume(MAIN)

        def waiting(serial, third=0, fourth=0):
            return ((0, 6, serial), (9, 1, third, fourth))

        for rows in ([waiting(1)], [waiting(5), waiting(GREAT)], [waiting(1), waiting(2), waiting(3)]):
            self.assertEqual(self.accept(main, *rows), (NEW_STATE, False))
        for row in (waiting(0), waiting(1, 1), waiting(1, 0, 1)):
            self.refuse(main, row)
        self.refuse(waiting(1))

    def test_trees_of_volumes_and_waiting_roots(self):
        for key, flags in (((0, 4, A), 1), ((0, 4, A), 0), ((0, 6, 1), 0)):
            items = [self.volume(MAIN), (key, (10, 1, flags, 0))]
            check(self.image(items, {10: leaf(10, 1, [ROOT_RECORD])}))
            for words_of_root in (
                    leaf(10, 1, []), leaf(11, 1, [ROOT_RECORD]), leaf(10, 2, [ROOT_RECORD]), [0] * 32,
                    leaf(10, 1, [((1, 1, 0), (2, 1, 1, 0))]), leaf(10, 1, [((1, 1, 0), (1, 0, 0, 0))])):
                for call in (check, reached):
                    with self.assertRaises(BadImage):
                        call(self.image(items, {10: words_of_root}))

    def test_births_and_roles(self):
        file, unit = ((2, 1, 0), (1, 0, 32, 0)), ((2, 3, 0), (20, 1, 0, 0))
        good = [ROOT_RECORD, file, unit]
        items = [self.volume(MAIN), self.volume(A)]
        items[1] = (items[1][0], (10, 1, 1, 0))

        def image(first, second=(ROOT_RECORD,), data=DATA):
            blocks = {9: leaf(9, 1, first), 10: leaf(10, 1, list(second)), **data}
            return self.image(items, blocks)

        check(image(good))
        check(image(good, good))
        for birth in (0, 2, GREAT):
            for value in ((20, birth, 0, 0), (21, birth, 0, 0)):
                with self.assertRaises(BadImage):
                    check(image([ROOT_RECORD, ((2, 1, 0), (1, 0, 32, 0)), ((2, 3, 0), value)]))
        # One block with two births, and as a node and as data.
        deep = {5: leaf(5, 2, [((0, 4, A), (10, 2, 1, 0)), ((0, 4, MAIN), (9, 2, 1, 0))]),
                9: leaf(9, 2, good), 10: leaf(10, 2, good), **DATA}
        self.assertEqual(check(image_of(deep, (5, 2), 2))[1], True)
        other = [ROOT_RECORD, file, ((2, 3, 0), (20, 2, 0, 0))]
        with self.assertRaises(BadImage):
            check(image_of({**deep, 10: leaf(10, 2, other)}, (5, 2), 2))
        check(image_of({**deep, 9: leaf(9, 2, other), 10: leaf(10, 2, other)}, (5, 2), 2))
        for number in (9, 10, 5):
            role = [ROOT_RECORD, ((2, 1, 0), (1, 0, 32, 0)), ((2, 3, 0), (number, 2, 0, 0))]
            with self.assertRaises(BadImage):
                check(image_of({**deep, 9: leaf(9, 2, role)}, (5, 2), 2))

    def test_the_root_of_the_table(self):
        main = self.volume(MAIN)
        for words_of_table in (leaf(6, 1, [main]), leaf(5, 2, [main]), [0] * 32, inner(5, 1, [((0, 4, MAIN), (6, 1))])):
            with self.assertRaises(BadImage):
                check(image_of({5: words_of_table, 6: leaf(6, 1, [main]), 9: leaf(9, 1, [ROOT_RECORD])}))


class ImageTest(unittest.TestCase):

    def test_what_is_no_image(self):
        good = make_disk(96).image()
        self.assertEqual(check(good), (NEW_STATE, True))
        for image in (
                None, 5, "", [], [[]], tuple(good), good[:-1], good[:-4], good + [[0] * 8], good * 3,
                with_sector(good, 50, [0] * 7), with_sector(good, 50, [0] * 9), with_sector(good, 50, [0] * 7 + [-1]),
                with_sector(good, 50, [0] * 7 + [True]), with_sector(good, 50, [0] * 7 + [None]),
                with_sector(good, 50, [0] * 7 + ["0"]), good[:50] + [None] + good[51:],
                good[:50] + ["0" * 8] + good[51:], good[:50] + [(0,) * 8] + good[51:]):
            for call in (check, reached):
                with self.assertRaises(BadImage):
                    call(image)

    def test_heads(self):
        good = make_disk(96).image()
        for sector, words_of_sector in (
                (1, [0] * 8), (1, [1, 5, 1, 5, 96, 0, 0, 1]), (1, [1, 5, 1, 4, 97, 0, 0, 1]),
                (1, [1, 5, 1, 4, 96, 1, 0, 1]), (1, [1, 5, 1, 4, 96, 0, 1, 1]), (1, [1, 4, 1, 4, 96, 0, 0, 1]),
                (1, [1, 96, 1, 4, 96, 0, 0, 1]), (1, [1, 5, 0, 4, 96, 0, 0, 1]), (1, [1, 5, 2, 4, 96, 0, 0, 1]),
                (1, [2, 5, 1, 4, 96, 0, 0, 2]), (0, [9] * 8), (0, [0] * 7 + [1]), (4, [0] * 7 + [2]),
                (19, [0] * 7 + [2]), (1, [1, 6, 1, 4, 96, 0, 0, 1])):
            for call in (check, reached):
                with self.assertRaises(BadImage):
                    call(with_sector(good, sector, words_of_sector))
        self.assertEqual(check(with_sector(good, 0, [9] * 7 + [0])), (NEW_STATE, True))

    def test_blocks_that_are_not_reached_do_not_matter(self):
        image = with_words(make_disk(96).image(), 70, [GREAT] * 32)
        self.assertEqual(check(image), (NEW_STATE, True))

    def logged(self, *intents):
        """The image of a new disk with records in the log."""
        disk = make_disk(96)
        for sector, words_of_sector in Log(1).append_records(list(intents)):
            disk.write(sector, words_of_sector)
        disk.flush()
        return disk.image()

    def test_records(self):
        make = (1, MAIN, 1, A, 1, 0)
        for intents in ([make], [make, (3, MAIN, 1, A), (10, MAIN, 2)], [make, (6, MAIN, 2, 0, 1)]):
            self.assertEqual(check(self.logged(*intents)), (NEW_STATE, False))
            self.assertEqual(reached(self.logged(*intents)), [(5, 1, True, 1), (6, 1, True, 1)])
        for intents in (
                [make, make], [(3, MAIN, 1, A)], [make, (10, MAIN, 2)], [(1, A, 1, A, 1, 0)], [(11, MAIN)],
                [(1, MAIN, 1, A + 1, 1, 0)], [make, (2, MAIN, 2, 1, B), (2, MAIN, 2, 1, B)], [(9, MAIN, 1, 256)]):
            for call in (check, reached):
                with self.assertRaises(BadImage):
                    call(self.logged(*intents))

    def test_records_that_are_not_whole_and_old_ones(self):
        image = self.logged((3, MAIN, 1, A))
        self.assertEqual(check(with_sector(image, 4, [0] * 8)), (NEW_STATE, False))
        self.assertEqual(check(with_sector(image, 5, [0] * 8)), (NEW_STATE, False))
        self.assertEqual(check(with_sector(with_sector(image, 4, [1] * 7 + [0]), 5, [0] * 8)), (NEW_STATE, True))

    def test_a_record_for_which_there_is_no_room(self):
        store = mount(make_disk(96))
        play(store, (1, MAIN, 1, A, 1, 0))
        for unit in range(64):
            commit(store)
            saved = store.saved()
            try:
                play(store, (6, MAIN, 2, 32 * unit, 1))
            except BadImage:
                store.restore(saved)
                break
        image = store.disk.lasting()
        self.assertLess(store.free(), 12)
        state, clean = check(image)
        for intent, good in (((9, MAIN, 2, 0), True), ((6, MAIN, 2, 32 * unit, 1), False)):
            logged = image
            for sector, words_of_sector in Log(store.head.generation).append_records([intent]):
                logged = with_sector(logged, sector, words_of_sector)
            if good:
                self.assertEqual((check(logged), clean), ((state, False), True))
                continue
            for call in (check, reached):
                with self.assertRaises(BadImage):
                    call(logged)

    def test_the_image_is_not_changed(self):
        for image in (self.logged((1, MAIN, 1, A, 1, 0)), make_disk(96).image()):
            before = copy_of(image)
            check(image)
            reached(image)
            self.assertEqual(image, before)


class ReachedTest(SystemCase):

    def test_a_new_disk(self):
        self.assertEqual(reached(make_disk(96).image()), [(5, 1, True, 1), (6, 1, True, 1)])

    def test_shared_blocks(self):
        self.start()
        self.make_file("a", [1] * 70)
        self.ask("create_snapshot", "main", "s")
        self.ask("create_snapshot", "main", "t")
        self.ask("open_file", "a", "rw")
        self.ask("share_units", 0, 0, 0, 5, 2)
        self.ask("create_clone", "s", "c")
        self.ask("write_cells", 0, [9])
        self.ask("sync_all")
        image = self.system.image()
        counts = counted_uses(self.store, [(self.store.table, True)])
        found = reached(image)
        self.assertEqual([(row[0], row[3]) for row in found],
                         [(at, count) for at, count in enumerate(counts) if count and at > 4])
        self.assertTrue(all(isinstance(row, tuple) and row[2] in (True, False) for row in found))
        data = {row[0] for row in found if row[2] is False}
        self.assertEqual(len(data), 4)
        for number, birth, is_node, _ in found:
            self.assertLessEqual(birth, self.store.head.generation)
            if is_node:
                self.assertEqual(words_of(image, number)[2:4], [number, birth])

    def test_by_the_record_of_a_table_with_waiting_roots(self):
        self.start()
        self.ask("create_volume", "v")
        self.session.commit_changes()
        drop_volume(self.store, None, "v")
        self.session.commit_changes()
        self.assertEqual(len(waiting_roots(self.store)), 1)
        counts = counted_uses(self.store, [(self.store.table, True)])
        self.assertEqual([row[3] for row in reached(self.system.image())], [count for count in counts[5:] if count])


class CleanTest(SystemCase):

    def test_states_of_systems(self):
        self.start()
        self.make_file("a", [0] * 33 + [5])
        self.ask("put_owner", 9, 0, None, 4)
        self.ask("create_snapshot", "main", "s")
        self.ask("make_directory", "d")
        self.ask("sync_all")
        self.assertEqual(check(self.system.image()), (self.system.state(), True))
        state = self.system.state()
        self.ask("open_file", "x", "wm")
        self.assertEqual(check(self.system.image()), (state, True))
        self.ask("sync_file", 0)
        # The records of the log are not played.
        self.assertEqual(check(self.system.image()), (state, False))
        self.assertNotEqual(self.system.state(), state)
        self.ask("sync_all")
        self.assertEqual(check(self.system.image()), (self.system.state(), True))

    def test_files_without_a_name(self):
        self.start()
        self.ask("open_file", "x", "wm")
        self.ask("unlink_file", "x")
        self.ask("sync_all")
        self.assertEqual(check(self.system.image()), (NEW_STATE, True))
        disk = disk_from(self.system.image())
        mount(disk)
        self.assertNotEqual(disk.image(), self.system.image())
        self.assertEqual(check(disk.image()), (NEW_STATE, True))

    def test_mounting_a_clean_image(self):
        self.start()
        self.make_file("a", [5])
        self.ask("sync_all")
        image = self.system.image()
        state, clean = check(image)
        disk = disk_from(image)
        disk.fail_after(0)
        self.assertEqual((state_of(mount(disk)), clean, disk.image()), (state, True, image))

    def test_waiting_roots(self):
        self.start()
        self.ask("create_volume", "v")
        drop_volume(self.store, None, "v")
        self.session.commit_changes()
        self.assertEqual(check(self.system.image()), (NEW_STATE, False))
        self.assertLess(log_mark(self.system.disk), self.store.head.generation)
        disk = disk_from(self.system.image())
        mount(disk)
        self.assertEqual(check(disk.image()), (NEW_STATE, True))

    def test_words_that_were_changed_by_chance(self):
        self.start(96)
        for name in ("a", "b", "c"):
            self.make_file(name, [1] * 40)
            self.ask("make_directory", "d" + name)
        self.ask("put_owner", 1, 0, 3, 3)
        self.ask("create_snapshot", "main", "s")
        self.ask("link_file", "a", "da/x")
        self.ask("sync_all")
        image, chance, counts = self.system.image(), random.Random(4), [0, 0]
        numbers = [row[0] for row in reached(image)]
        for _ in range(500):
            number = chance.choice(numbers)
            changed = words_of(image, number)
            at = chance.choice([at for at in range(32) if changed[at]])
            changed[at] = chance.choice([0, 1, 2, 3, 5, changed[at] + 1, chance.choice(numbers), GREAT])
            broken = with_words(image, number, changed)
            try:
                state, clean = check(broken)
            except BadImage:
                counts[0] += 1
                with self.assertRaises(BadImage):
                    reached(broken)
                continue
            counts[1] += 1
            # What the checker accepts can be mounted, and shows the same.
            disk = disk_from(broken)
            self.assertEqual((state_of(mount(disk)), clean), (state, True))
        self.assertTrue(all(count > 30 for count in counts), counts)


if __name__ == "__main__":
    unittest.main()
