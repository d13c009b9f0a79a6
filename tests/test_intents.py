"""The log of intents: points [93] to [98], and [8] and [13] for records that a cut tore."""

import random
import unittest

from helpers import (
    VolumeCase, changed_by_hand, erase_by_hand, fill, resize_by_hand, root_of, share_by_hand, shown, state_of,
    write_by_hand)
from laminae.commits import commit
from laminae.dirs import add_entry, list_entries
from laminae.errors import BadImage, NoSpace, PowerOff
from laminae.heads import log_mark
from laminae.inodes import DIRECTORY, add_inode, read_record
from laminae.intents import Log, check_intent, play, play_all, record_sectors, sectors_of, whole_records
from laminae.paths import link_entry, make_entry, move_entry, remove_directory_entry, unlink_entry
from laminae.trees import put
from laminae.volumes import make_volume, prepare_root, set_root, take_snapshot
from laminae.words import name_word

MAIN, A, B = name_word("main"), name_word("a"), name_word("b")
GREAT = 10 ** 30
NO_NAMES = (0, 1, 2, A - 1, A + 1, MAIN + 1, 40 ** 11, 40 ** 11 + A, GREAT, name_word("a") * 40)
GOOD = {
    1: (1, MAIN, 1, A, 1, 0), 2: (2, MAIN, 2, 1, A), 3: (3, MAIN, 1, A), 4: (4, MAIN, 1, A), 5: (5, MAIN, 1, A, 3, B),
    6: (6, MAIN, 2, 0, 7, 0, 9), 7: (7, MAIN, 2, 0), 8: (8, MAIN, 2, 0, 3, 0, 1), 9: (9, MAIN, 2, 0), 10: (10, MAIN, 2)}
# For each kind the places of inodes and of names.
INODES = {1: [2], 2: [2, 3], 3: [2], 4: [2], 5: [2, 4], 6: [2], 7: [2], 8: [2, 4], 9: [2], 10: [2]}
NAMES = {1: [1, 3], 2: [1, 4], 3: [1, 3], 4: [1, 3], 5: [1, 3, 5], 6: [1], 7: [1], 8: [1], 9: [1], 10: [1]}


def replaced(words, at, word):
    """A tuple with another word at an index."""
    return words[:at] + (word,) + words[at + 1:]


class CheckIntentTest(unittest.TestCase):

    def assert_good(self, *intents):
        for words in intents:
            self.assertIs(check_intent(words), True, words)

    def assert_bad(self, *intents):
        for words in intents:
            self.assertIs(check_intent(words), False, words)

    def test_each_kind(self):
        self.assert_good(*GOOD.values())

    def test_kinds(self):
        self.assert_bad((), (0,), (11,), (0, MAIN, 1, A), (11, MAIN, 2), (GREAT, MAIN, 2))
        for words in GOOD.values():
            self.assert_bad(replaced(words, 0, 0), replaced(words, 0, 11), words[:1])

    def test_numbers_of_words(self):
        for kind, words in GOOD.items():
            if kind != 6:
                self.assert_bad(words + (0,), words + (1,), words + (A,), words[:-1])
        self.assert_bad(GOOD[6][:4], GOOD[6][:3], GOOD[6][:2])
        self.assert_good(GOOD[6][:5], GOOD[6] + (0,) * 2041)

    def test_words_that_are_no_names(self):
        for kind, places in NAMES.items():
            for at in places:
                self.assert_bad(*[replaced(GOOD[kind], at, word) for word in NO_NAMES])
                self.assert_good(*[replaced(GOOD[kind], at, name_word(name)) for name in ("z", "-", "-" * 11, ".a")])

    def test_inodes(self):
        for kind, places in INODES.items():
            for at in places:
                self.assert_good(*[replaced(GOOD[kind], at, word) for word in (1, 2, GREAT)])
                self.assert_bad(replaced(GOOD[kind], at, 0))

    def test_kinds_of_inodes_and_owners(self):
        self.assert_good(*[replaced(GOOD[1], 4, word) for word in (1, 2)])
        self.assert_bad(*[replaced(GOOD[1], 4, word) for word in (0, 3, GREAT)])
        for kind, at in ((1, 5), (9, 3)):
            self.assert_good(*[replaced(GOOD[kind], at, word) for word in (0, 1, 255)])
            self.assert_bad(*[replaced(GOOD[kind], at, word) for word in (256, GREAT)])

    def test_cells(self):
        for start, many in ((0, 1), (2047, 1), (0, 2048), (1, 2047), (2000, 48)):
            self.assert_good((6, MAIN, 2, start, *[GREAT] * many))
        for start, many in ((2048, 1), (2047, 2), (0, 2049), (1, 2048), (GREAT, 1), (0, 0), (2048, 0)):
            self.assert_bad((6, MAIN, 2, start, *[1] * many))

    def test_lengths(self):
        self.assert_good(*[replaced(GOOD[7], 3, length) for length in (0, 1, 2047, 2048)])
        self.assert_bad(*[replaced(GOOD[7], 3, length) for length in (2049, GREAT)])

    def test_units(self):
        for first, at, units in ((0, 0, 1), (63, 63, 1), (0, 0, 64), (63, 0, 1), (0, 63, 1), (10, 20, 44)):
            self.assert_good((8, MAIN, 2, first, 3, at, units), (8, MAIN, 3, at, 2, first, units))
        for first, at, units in (
                (0, 0, 0), (64, 0, 1), (0, 64, 1), (63, 0, 2), (0, 63, 2), (0, 0, 65), (1, 0, 64), (0, 1, 64),
                (64, 64, 0), (GREAT, 0, 1), (0, GREAT, 1), (0, 0, GREAT)):
            self.assert_bad((8, MAIN, 2, first, 3, at, units))

    def test_words_only(self):
        for kind, words in GOOD.items():
            for at in range(len(words)):
                self.assert_bad(replaced(words, at, -1), replaced(words, at, True), replaced(words, at, None))


def intent_of(many):
    """An intent with so many words, from 5 on."""
    return (6, MAIN, 2, 0, *range(100, 96 + many))


class RecordTest(unittest.TestCase):

    def test_the_example_of_the_interface(self):
        self.assertEqual(
            record_sectors((7, 5, 2, 40), 1, 9), [[1, 0, 2, 4, 7, 5, 2, 9], [1, 1, 2, 40, 0, 0, 0, 9]])

    def test_how_many_sectors(self):
        for many, sectors in (
                (1, 1), (2, 1), (3, 1), (4, 2), (5, 2), (6, 2), (7, 2), (8, 3), (11, 3), (12, 4), (63, 16), (64, 17),
                (2052, 514)):
            self.assertEqual(sectors_of((9,) * many), sectors)
            self.assertEqual(len(record_sectors((9,) * many, 3, 4)), sectors)

    def test_the_words_of_records(self):
        self.assertEqual(record_sectors((10, MAIN, 2), 7, 3), [[7, 0, 1, 3, 10, MAIN, 2, 3]])
        self.assertEqual(record_sectors((3, MAIN, 1, A), 2, 5), [
            [2, 0, 2, 4, 3, MAIN, 1, 5], [2, 1, 2, A, 0, 0, 0, 5]])
        self.assertEqual(record_sectors((6, MAIN, 2, 0, 1, 2, 3), 2, 5), [
            [2, 0, 2, 7, 6, MAIN, 2, 5], [2, 1, 2, 0, 1, 2, 3, 5]])
        self.assertEqual(record_sectors((6, MAIN, 2, 0, 1, 2, 3, 4), 2, 5), [
            [2, 0, 3, 8, 6, MAIN, 2, 5], [2, 1, 3, 0, 1, 2, 3, 5], [2, 2, 3, 4, 0, 0, 0, 5]])


class LogTest(unittest.TestCase):

    def test_a_new_log(self):
        log = Log(9)
        self.assertEqual((log.generation, log.next_sector, log.next_record), (9, 4, 1))

    def test_records_follow_one_another(self):
        log = Log(9)
        first, second, third = GOOD[10], GOOD[5], GOOD[3]
        writes = log.append_records([first, second])
        self.assertEqual(
            writes, [(4, record_sectors(first, 1, 9)[0]), *enumerate_from(5, record_sectors(second, 2, 9))])
        self.assertEqual((log.generation, log.next_sector, log.next_record), (9, 7, 3))
        self.assertTrue(all(isinstance(write, tuple) for write in writes))
        self.assertEqual(log.append_records([third]), enumerate_from(7, record_sectors(third, 3, 9)))
        self.assertEqual((log.next_sector, log.next_record), (9, 4))
        self.assertEqual(len(writes), 3)

    def test_no_intents(self):
        log = Log(1)
        for _ in range(2):
            self.assertIs(log.fits([]), True)
            self.assertEqual(log.append_records([]), [])
            self.assertEqual((log.next_sector, log.next_record), (4, 1))
        log.append_records([intent_of(63)])
        self.assertEqual((log.fits([]), log.append_records([])), (True, []))

    def test_a_log_that_is_full(self):
        for sizes in (
                [63], [64], [60, 3], [60, 5], [7] * 8, [7] * 9, [5] * 7 + [8], [59, 6], [3] * 16, [3] * 17, [100]):
            intents = [(9,) * many for many in sizes]
            log = Log(4)
            fits = sum((many + 4) // 4 for many in sizes) <= 16
            self.assertIs(log.fits(intents), fits)
            if fits:
                writes = log.append_records(intents)
                self.assertEqual([sector for sector, _ in writes], list(range(4, 4 + len(writes))))
                continue
            with self.assertRaises(NoSpace):
                log.append_records(intents)
            self.assertEqual((log.generation, log.next_sector, log.next_record), (4, 4, 1))

    def test_behind_other_records(self):
        log = Log(4)
        log.append_records([intent_of(47)])
        self.assertEqual(log.next_sector, 16)
        for intents, fits in (
                ([intent_of(15)], True), ([intent_of(16)], False), ([GOOD[10]] * 4, True), ([GOOD[10]] * 5, False)):
            self.assertIs(log.fits(intents), fits)
            if not fits:
                with self.assertRaises(NoSpace):
                    log.append_records(intents)
            self.assertEqual((log.next_sector, log.next_record), (16, 2))
        self.assertEqual(log.append_records([intent_of(15)])[-1][0], 19)
        self.assertEqual((log.next_sector, log.next_record), (20, 3))
        self.assertIs(log.fits([GOOD[10]]), False)


def enumerate_from(start, rows):
    """Each row behind its number, from `start` on."""
    return [(start + at, row) for at, row in enumerate(rows)]


def log_of(intents, generation, old=0):
    """The sectors of a log with these records; the rest was written in the generation `old`."""
    sectors = [[0] * 7 + [old] for _ in range(16)]
    for sector, words in Log(generation).append_records(intents):
        sectors[sector - 4] = words
    return sectors


class WholeRecordsTest(unittest.TestCase):

    def refuse(self, sectors, generation=9):
        with self.assertRaises(BadImage):
            whole_records(sectors, generation)

    def test_each_kind(self):
        intents = list(GOOD.values())
        self.assertEqual(whole_records(log_of(intents[:6], 9), 9), intents[:6])
        self.assertEqual(whole_records(log_of(intents[6:], 9), 9), intents[6:])
        self.assertTrue(all(isinstance(intent, tuple) for intent in whole_records(log_of(intents[:3], 9), 9)))

    def test_an_empty_log(self):
        self.assertEqual(whole_records([[0] * 8 for _ in range(16)], 9), [])
        self.assertEqual(whole_records(log_of([GOOD[1]], 8), 9), [])
        self.assertEqual(whole_records(log_of([GOOD[1]], 10), 9), [])

    def test_a_log_that_is_full(self):
        for intents in ([intent_of(63)], [intent_of(31), intent_of(31)], [GOOD[10]] * 16):
            self.assertEqual(whole_records(log_of(intents, 9), 9), intents)

    def test_records_of_older_generations(self):
        old = log_of([GOOD[10]] * 16, 8)
        new = log_of([GOOD[5], GOOD[10], GOOD[7]], 9)[:5]
        for at in range(1, 16):
            old[at][0] = at + 1
        self.assertEqual(whole_records(new + old[5:], 9), [GOOD[5], GOOD[10], GOOD[7]])
        # The fourth record is one of the generation before.
        old[5][0] = 4
        self.assertEqual(whole_records(new + old[5:], 9), [GOOD[5], GOOD[10], GOOD[7]])
        self.assertEqual(whole_records(old[:1] + new + old[6:], 9), [])

    def test_records_that_are_not_whole(self):
        intents = [GOOD[10], intent_of(11), GOOD[7], GOOD[10]]
        for sector, kept in ((0, 0), (1, 1), (2, 1), (3, 1), (4, 2), (5, 2), (6, 3)):
            for word in (0, 1, 2, 7):
                for change in (-1, 1):
                    sectors = log_of(intents, 9)
                    sectors[sector][word] += change
                    if sectors[sector][word] >= 0 and (sector, word, change) != (4, 2, -1):
                        self.assertEqual(whole_records(sectors, 9), intents[:kept], (sector, word, change))
        # One sector that says that it is the only one is whole, but it does not have all the words.
        sectors = log_of(intents, 9)
        sectors[4][2] = 1
        self.refuse(sectors)

    def test_a_gap(self):
        intents = [GOOD[10], intent_of(11), GOOD[10]]
        sectors = log_of(intents, 9)
        self.assertEqual(whole_records(sectors[:1] + [[0] * 8] + sectors[1:15], 9), intents[:1])
        self.assertEqual(whole_records([[0] * 8] + sectors[:15], 9), [])
        self.assertEqual(whole_records(sectors[:2] + sectors[3:] + [[0] * 8], 9), intents[:1])

    def test_numbers_of_parts(self):
        for parts in (0, 17, GREAT):
            sectors = log_of([GOOD[10]], 9)
            sectors[0][2] = parts
            self.assertEqual(whole_records(sectors, 9), [])
        # A record may end in the last sector, and not behind it.
        sectors = log_of([intent_of(59), GOOD[10]], 9)
        self.assertEqual(len(whole_records(sectors, 9)), 2)
        sectors[15] = [2, 0, 2, 4, 7, MAIN, 2, 9]
        self.assertEqual(whole_records(sectors, 9), [intent_of(59)])

    def test_whole_records_that_are_no_intents(self):
        for at, words in ((3, (2, 4, 0, 7, 8, GREAT)), (4, (0, 11, 9)), (5, (MAIN + 1, 0)), (6, (0,))):
            for word in words:
                sectors = log_of([GOOD[10]], 9)
                self.assertEqual(sectors[0], [1, 0, 1, 3, 10, MAIN, 2, 9])
                sectors[0][at] = word
                self.refuse(sectors)
        for kind, words in GOOD.items():
            self.refuse(log_of([GOOD[10], replaced(words, 1, MAIN + 1)], 9))

    def test_numbers_of_words(self):
        for many in range(5, 14):
            good = intent_of(many)
            for said in (0, 1, 2, 3, *range(4, 20), GREAT):
                sectors = log_of([good], 9)
                sectors[0][3] = said
                if said == many:
                    self.assertEqual(whole_records(sectors, 9), [good])
                elif (said + 4) // 4 == len(record_sectors(good, 1, 9)) and said > many:
                    # More words than were written, all of them 0, are cells.
                    self.assertEqual(whole_records(sectors, 9), [good + (0,) * (said - many)])
                else:
                    self.refuse(sectors)

    def test_words_behind_an_intent(self):
        for many in (5, 6, 8, 9, 10):
            sectors = log_of([intent_of(many)], 9)
            last = (many + 4) // 4 - 1
            for at in range(3 + (many + 1) % 4, 7):
                changed = [list(words) for words in sectors]
                changed[last][at] = 1
                self.refuse(changed)

    def test_what_was_passed_is_not_changed(self):
        sectors = log_of([GOOD[1], GOOD[10]], 9)
        before = [list(words) for words in sectors]
        whole_records(sectors, 9)
        self.assertEqual(sectors, before)


class PlayCase(VolumeCase):

    def start(self, blocks=256):
        """Begin with files and directories in main; see `names`."""
        VolumeCase.start(self, blocks)
        self.file = self.add_file("main", "file", [1] * 70, owner=3)
        self.other = self.add_file("main", "other", [0] * 40 + [2] * 60)
        self.empty = self.add_directory("main", 1, "empty")
        self.inner = self.add_directory("main", 1, "inner")
        self.below = self.add_directory("main", self.inner, "below")
        self.orphan = self.add_file("main", None, [3] * 50)
        commit(self.store)

    def add_directory(self, volume, parent, name):
        """Add a directory, and return its inode."""
        root = prepare_root(self.store, volume)
        root, inode = add_inode(self.store, root, DIRECTORY, parent, 0)
        set_root(self.store, volume, add_entry(self.store, root, parent, name_word(name), inode, DIRECTORY))
        return inode

    def intents(self):
        """For each intent the function that makes the same change."""
        word = name_word
        return [
            ((1, MAIN, self.inner, A, 1, 7), first(make_entry), (self.inner, A, 1, 7)),
            ((1, MAIN, 1, B, 2, 0), first(make_entry), (1, B, 2, 0)),
            ((2, MAIN, self.file, self.inner, A), link_entry, (self.file, self.inner, A)),
            ((3, MAIN, 1, word("file")), first(unlink_entry), (1, word("file"))),
            ((4, MAIN, 1, word("empty")), remove_directory_entry, (1, word("empty"))),
            ((5, MAIN, 1, word("file"), self.inner, A), first(move_entry), (1, word("file"), self.inner, A)),
            ((5, MAIN, 1, word("file"), 1, word("other")), first(move_entry), (1, word("file"), 1, word("other"))),
            ((5, MAIN, 1, word("inner"), self.empty, A), first(move_entry), (1, word("inner"), self.empty, A)),
            ((5, MAIN, self.inner, word("below"), 1, word("empty")), first(move_entry),
             (self.inner, word("below"), 1, word("empty"))),
            ((5, MAIN, 1, word("file"), 1, word("file")), first(move_entry), (1, word("file"), 1, word("file"))),
            ((6, MAIN, self.file, 30, 7, 8, 9), write_by_hand, (self.file, 30, [7, 8, 9])),
            ((6, MAIN, self.file, 0, *[1] * 70), write_by_hand, (self.file, 0, [1] * 70)),
            ((6, MAIN, self.other, 2047, GREAT), write_by_hand, (self.other, 2047, [GREAT])),
            ((7, MAIN, self.file, 40), resize_by_hand, (self.file, 40)),
            ((7, MAIN, self.file, 2048), resize_by_hand, (self.file, 2048)),
            ((7, MAIN, self.file, 70), resize_by_hand, (self.file, 70)),
            ((8, MAIN, self.file, 0, self.other, 1, 3), share_by_hand, (self.file, 0, self.other, 1, 3)),
            ((8, MAIN, self.other, 0, self.other, 2, 2), share_by_hand, (self.other, 0, self.other, 2, 2)),
            ((9, MAIN, self.file, 255), give_by_hand, (self.file, 255)),
            ((9, MAIN, 1, 4), give_by_hand, (1, 4)),
            ((10, MAIN, self.orphan), erase_by_hand, (self.orphan,)),
        ]

    def assert_bad(self, intent):
        """Check that playing an intent raises BadImage, and that the store can be restored."""
        saved, before = self.store.saved(), state_of(self.store)
        with self.assertRaises(BadImage):
            play(self.store, intent)
        self.store.restore(saved)
        self.assertEqual(state_of(self.store), before, intent)


def first(function):
    """A function that returns the root that another one returns among other things."""
    return lambda *given: function(*given)[0]


def give_by_hand(store, root, inode, owner):
    """Give an inode to an owner."""
    return put(store, root, (inode, 1, 0), (*read_record(store, root, inode)[:3], owner))


class PlayTest(PlayCase):

    def test_each_kind(self):
        self.start()
        for intent, change, given in self.intents():
            self.assertIs(check_intent(intent), True, intent)
            saved = self.store.saved()
            changed_by_hand(self.store, "main", change, *given)
            expected = state_of(self.store)
            self.store.restore(saved)
            self.assertIs(play(self.store, intent), None)
            self.assertEqual(state_of(self.store), expected, intent)
            self.assert_uses()
            self.store.restore(saved)

    def test_several_intents_in_their_order(self):
        self.start()
        intents = [(1, MAIN, 1, A, 1, 7), (6, MAIN, 8, 0, 5, 6), (3, MAIN, 1, A), (10, MAIN, 8), (1, MAIN, 1, A, 2, 7)]
        saved = self.store.saved()
        for intent in intents:
            play(self.store, intent)
        expected = state_of(self.store)
        self.store.restore(saved)
        self.assertIs(play_all(self.store, intents), None)
        self.assertEqual(state_of(self.store), expected)
        self.assertIn((A, 8, 2), list_entries(self.store, root_of(self.store, "main"), 1))
        self.store.restore(saved)
        before = state_of(self.store)
        play_all(self.store, [])
        self.assertEqual(state_of(self.store), before)
        with self.assertRaises(BadImage):
            play_all(self.store, intents[1:])

    def test_another_volume(self):
        self.start()
        make_volume(self.store, None, "b")
        before = self.shown("main")
        play(self.store, (1, B, 1, A, 1, 0))
        self.assertEqual(self.shown("main"), before)
        self.assertEqual(self.shown("b"), [
            ((1, 1, 0), (2, 1, 1, 0)), ((1, 2, A), (2, 1, 0, 0)), ((2, 1, 0), (1, 1, 0, 0))])

    def test_the_root_is_prepared_also_if_nothing_changes(self):
        self.start()
        for intent in ((7, MAIN, self.file, 70), (6, MAIN, self.file, 0, 1), (9, MAIN, 1, 0)):
            commit(self.store)
            table = self.store.table
            play(self.store, intent)
            self.assertNotEqual(self.store.table, table)
            self.assert_uses()

    def test_exceptions(self):
        self.start()
        word = name_word
        for intent in (
                (1, MAIN, 99, A, 1, 0), (1, MAIN, self.file, A, 1, 0), (1, MAIN, 1, word("file"), 1, 0),
                (2, MAIN, 99, 1, A), (2, MAIN, self.inner, 1, A), (2, MAIN, self.file, 1, word("file")),
                (3, MAIN, 1, A), (3, MAIN, 1, word("inner")), (4, MAIN, 1, word("inner")), (4, MAIN, 1, word("file")),
                (4, MAIN, 1, A), (5, MAIN, 1, A, 1, B), (5, MAIN, 1, word("inner"), self.below, A),
                (5, MAIN, 1, word("file"), 1, word("inner")), (5, MAIN, 1, word("empty"), 1, word("inner")),
                (6, MAIN, 99, 0, 1), (6, MAIN, 1, 0, 1), (7, MAIN, 1, 0), (7, MAIN, 99, 0), (8, MAIN, 99, 0, 2, 0, 1),
                (8, MAIN, self.file, 0, 1, 0, 1), (9, MAIN, 99, 0)):
            self.assertIs(check_intent(intent), True)
            self.assert_bad(intent)

    def test_volumes_that_cannot_be_changed(self):
        self.start()
        take_snapshot(self.store, "main", "s")
        for intent, _, _ in self.intents():
            self.assert_bad(replaced(intent, 1, name_word("s")))
            self.assert_bad(replaced(intent, 1, A))
            self.assert_bad(replaced(intent, 1, name_word("-" * 11)))

    def test_what_is_no_orphan(self):
        self.start()
        for inode in (1, self.file, self.other, self.empty, self.inner, 99):
            self.assert_bad((10, MAIN, inode))
        play(self.store, (2, MAIN, self.file, 1, A))
        play(self.store, (3, MAIN, 1, A))
        self.assert_bad((10, MAIN, self.file))
        play(self.store, (3, MAIN, 1, name_word("file")))
        play(self.store, (10, MAIN, self.file))
        self.assert_bad((10, MAIN, self.file))

    def test_the_reserve(self):
        self.start()
        saved = self.store.saved()
        for intent, _, _ in self.intents():
            for reserve in (0, 20, 60, 300):
                self.store.use_reserve(reserve)
                play(self.store, intent)
                self.assertEqual(self.store.reserve, reserve)
                self.store.restore(saved)
        for reserve in (0, 20, 60, 300):
            self.store.use_reserve(reserve)
            for intent in ((9, MAIN, 99, 0), (9, A, 1, 0), (10, MAIN, 1)):
                self.assert_bad(intent)
                self.assertEqual(self.store.reserve, reserve)

    def test_no_space(self):
        self.start()
        for intent, _, _ in self.intents():
            saved = self.store.saved()
            needed = self.blocks_for(intent)
            for left in (0, needed - 1):
                fill(self.store, left)
                self.assert_bad(intent)
                self.store.restore(saved)
            fill(self.store, needed)
            play(self.store, intent)
            if intent[0] == 9:
                # Nothing that was taken is given up again, so no block is left.
                self.assertEqual(self.store.free(), 0)
            self.store.restore(saved)

    def blocks_for(self, intent):
        """The least number of free blocks with which an intent can be played."""
        saved = self.store.saved()
        for left in range(40):
            fill(self.store, left)
            try:
                play(self.store, intent)
            except BadImage:
                continue
            finally:
                self.store.restore(saved)
            return left

    def test_power_off(self):
        self.start()
        self.store.disk.fail_after(0)
        with self.assertRaises(PowerOff):
            self.store.disk.flush()
        for reserve in (0, 60):
            self.store.use_reserve(reserve)
            for intent, _, _ in self.intents():
                with self.assertRaises(PowerOff):
                    play(self.store, intent)
                self.assertEqual(self.store.reserve, reserve)

    def test_a_snapshot_does_not_change(self):
        self.start()
        take_snapshot(self.store, "main", "s")
        before = self.shown("s")
        for intent, _, _ in self.intents():
            saved = self.store.saved()
            play(self.store, intent)
            self.assertEqual(shown(self.store, root_of(self.store, "s")), before)
            self.store.restore(saved)


class CutTest(PlayCase):

    def test_records_of_which_sectors_were_dropped_or_torn(self):
        chance = random.Random(7)
        intents = [GOOD[10], intent_of(9), GOOD[5], GOOD[7], intent_of(15)]
        ends = [1, 4, 6, 8, 12]
        for old in (0, 1):
            for choice in range(8):
                for at in range(12):
                    self.start()
                    disk, generation = self.store.disk, self.store.head.generation
                    if old:
                        for sector, words in Log(generation - 1).append_records([intent_of(63)]):
                            disk.write(sector, words)
                        disk.flush()
                    for sector, words in Log(generation).append_records(intents):
                        disk.write(sector, words)
                    choices = [8] * 12
                    choices[at] = choice
                    for later in range(at + 1, 12):
                        choices[later] = chance.choice([0, 3, 8])
                    disk.cut(choices)
                    sectors = [disk.read(sector) for sector in range(4, 20)]
                    kept = len([end for end in ends if end <= at])
                    self.assertEqual(whole_records(sectors, generation), intents[:kept])
                    marks = {words[7] for words in sectors}
                    self.assertEqual(log_mark(disk) == generation, generation in marks)


if __name__ == "__main__":
    unittest.main()
