"""Paths: points [62] to [67], [48] and [51]."""

import random
import unittest

from helpers import ChangeChecks, checked_items, commit, counted_uses, left_by, state_of, store_with, uses_of
from laminae import paths
from laminae.data import write_range
from laminae.dirs import find_entry, list_entries
from laminae.errors import BadImage, BadName, Exists, LaminaError, LoopFound, Missing, NotEmpty, TooMany, WrongKind
from laminae.inodes import DIRECTORY, FILE, make_tree, read_record, write_record
from laminae.paths import (
    depth_of, follow, height_of, is_within, link_entry, make_entry, move_entry, path_names, remove_directory_entry,
    split_path, unlink_entry)
from laminae.trees import put, take
from laminae.words import name_word

A, B, C, D = (name_word(name) for name in "abcd")


def name_of(number):
    """The word of one of many names."""
    return name_word("n" + str(number))


class Model:
    """Directories and files as dicts, changed by the words of the document."""

    def __init__(self, owner):
        self.nodes = {1: {"kind": 2, "second": 1, "owner": owner, "entries": {}}}

    def directory(self, inode):
        """The entries of a directory, by [51]."""
        if inode not in self.nodes:
            raise Missing()
        if self.nodes[inode]["kind"] == 1:
            raise WrongKind()
        return self.nodes[inode]["entries"]

    def depth(self, inode):
        return 0 if inode == 1 else 1 + self.depth(self.nodes[inode]["second"])

    def height(self, inode):
        below = [child for child in self.directory(inode).values() if self.nodes[child]["kind"] == 2]
        return max([1 + self.height(child) for child in below], default=0)

    def within(self, inner, outer):
        return inner == outer or inner != 1 and self.within(self.nodes[inner]["second"], outer)

    def names(self, inode):
        if inode == 1:
            return []
        parent = self.nodes[inode]["second"]
        return self.names(parent) + [name for name, found in self.directory(parent).items() if found == inode]

    def make(self, directory, name, kind, owner):
        entries = self.directory(directory)
        if name in entries:
            raise Exists()
        if len(entries) >= 100 or kind == 2 and self.depth(directory) >= 8:
            raise TooMany()
        inode = max(self.nodes) + 1
        self.nodes[inode] = {"kind": kind, "second": directory if kind == 2 else 1, "owner": owner, "entries": {}}
        entries[name] = inode
        return inode

    def link(self, inode, directory, name):
        if inode not in self.nodes:
            raise Missing()
        if self.nodes[inode]["kind"] == 2:
            raise WrongKind()
        entries = self.directory(directory)
        if name in entries:
            raise Exists()
        if self.nodes[inode]["second"] >= 60 or len(entries) >= 100:
            raise TooMany()
        entries[name] = inode
        self.nodes[inode]["second"] += 1

    def unlink(self, directory, name):
        entries = self.directory(directory)
        if name not in entries:
            raise Missing()
        if self.nodes[entries[name]]["kind"] == 2:
            raise WrongKind()
        inode = entries.pop(name)
        self.nodes[inode]["second"] -= 1
        return inode

    def remove(self, directory, name):
        entries = self.directory(directory)
        if name not in entries:
            raise Missing()
        if self.nodes[entries[name]]["kind"] == 1:
            raise WrongKind()
        if self.nodes[entries[name]]["entries"]:
            raise NotEmpty()
        del self.nodes[entries.pop(name)]

    def move(self, directory, name, target, new_name):
        entries = self.directory(directory)
        if name not in entries:
            raise Missing()
        other = self.directory(target)
        moved, replaced = entries[name], other.get(new_name)
        if moved == replaced:
            return 0
        self.check_move(moved, target, replaced)
        if replaced is not None:
            if self.nodes[replaced]["kind"] == 1:
                self.nodes[replaced]["second"] -= 1
            else:
                del self.nodes[replaced]
        other[new_name] = moved
        del entries[name]
        if self.nodes[moved]["kind"] == 2:
            self.nodes[moved]["second"] = target
        return replaced if replaced is not None and self.nodes[moved]["kind"] == 1 else 0

    def check_move(self, moved, target, replaced):
        is_directory = self.nodes[moved]["kind"] == 2
        if is_directory and self.within(target, moved):
            raise LoopFound()
        if replaced is not None and self.nodes[replaced]["kind"] != self.nodes[moved]["kind"]:
            raise WrongKind()
        if replaced is not None and is_directory and self.nodes[replaced]["entries"]:
            raise NotEmpty()
        if replaced is None and len(self.directory(target)) >= 100:
            raise TooMany()
        if is_directory and self.depth(target) + 1 + self.height(moved) > 8:
            raise TooMany()

    def items(self):
        """The items of the tree of the volume."""
        items = {}
        for inode, node in self.nodes.items():
            items[(inode, 1, 0)] = (node["kind"], node["second"], len(node["entries"]), node["owner"])
            for name, found in node["entries"].items():
                items[(inode, 2, name)] = (found, self.nodes[found]["kind"], 0, 0)
        return sorted(items.items())


def change_record(store, root, inode, second=0, length=0):
    """Put the record of an inode with other words; what is given is added."""
    kind, before, many, owner = read_record(store, root, inode)
    return put(store, root, (inode, 1, 0), (kind, before + second, many + length, owner))


def make_by_hand(store, root, directory, name, kind, owner):
    inode = max(key[0] for key, _ in checked_items(store, root)[0]) + 1
    root = put(store, root, (inode, 1, 0), (kind, directory if kind == 2 else 1, 0, owner))
    root = put(store, root, (directory, 2, name), (inode, kind, 0, 0))
    return change_record(store, root, directory, length=1), inode


def link_by_hand(store, root, inode, directory, name):
    root = put(store, root, (directory, 2, name), (inode, 1, 0, 0))
    root = change_record(store, root, directory, length=1)
    return change_record(store, root, inode, second=1)


def unlink_by_hand(store, root, directory, name):
    root, (inode, _, _, _) = take(store, root, (directory, 2, name))
    root = change_record(store, root, directory, length=-1)
    return change_record(store, root, inode, second=-1), inode


def remove_by_hand(store, root, directory, name):
    root, (inode, _, _, _) = take(store, root, (directory, 2, name))
    root = change_record(store, root, directory, length=-1)
    return take(store, root, (inode, 1, 0))[0]


def move_by_hand(store, root, directory, name, target, new_name):
    (moved, kind), replaced = find_entry(store, root, directory, name), find_entry(store, root, target, new_name)
    if replaced == (moved, kind):
        return root, 0
    if replaced is not None and kind == 1:
        root = change_record(store, root, replaced[0], second=-1)
    elif replaced is not None:
        root, _ = take(store, root, (replaced[0], 1, 0))
    root = put(store, root, (target, 2, new_name), (moved, kind, 0, 0))
    if replaced is None:
        root = change_record(store, root, target, length=1)
    root, _ = take(store, root, (directory, 2, name))
    root = change_record(store, root, directory, length=-1)
    if kind == 2 and directory != target:
        root = change_record(store, root, moved, second=target - directory)
    return root, replaced[0] if replaced is not None and kind == 1 else 0


# For each kind of change: the function, what it does by hand, and the same for the model.
CHANGES = {
    "make": (make_entry, make_by_hand, Model.make), "link": (link_entry, link_by_hand, Model.link),
    "unlink": (unlink_entry, unlink_by_hand, Model.unlink),
    "remove": (remove_directory_entry, remove_by_hand, Model.remove), "move": (move_entry, move_by_hand, Model.move),
}


class Tested(ChangeChecks, unittest.TestCase):

    def start(self, blocks=256):
        """Begin with a new volume of owner 7."""
        self.store, self.model = store_with(5, blocks=blocks), Model(7)
        self.root = make_tree(self.store, 7)

    def change(self, kind, *given):
        """Make a change in the tree and in the model; both must raise the same, or return the same."""
        function, by_hand, in_model = CHANGES[kind]
        try:
            expected = in_model(self.model, *given)
        except LaminaError as error:
            self.assert_refused(self.store, error.__class__, function, self.root, *given)
            return error.__class__
        found = self.assert_same_change(self.store, function, by_hand, self.root, *given)
        self.root = found if kind in ("link", "remove") else found[0]
        if kind not in ("link", "remove"):
            self.assertIsInstance(found, tuple)
            self.assertEqual(found[1], expected)
        self.assert_tree()
        return expected

    def refuse(self, error, kind, *given):
        """Check that a change is refused, in the tree and in the model, also if no block is free."""
        self.assertIs(self.change(kind, *given), error)
        self.store.use_reserve(300)
        self.assertIs(self.change(kind, *given), error)
        self.store.use_reserve(0)

    def assert_tree(self):
        """Compare the tree with the model, and check the uses and what [48] says."""
        items = checked_items(self.store, self.root)[0]
        self.assertEqual(items, self.model.items())
        self.assertEqual(uses_of(self.store), counted_uses(self.store, [(self.root, True)]))
        records = {key[0]: value for key, value in items if key[1] == 1}
        entries = [(key[0], value[0]) for key, value in items if key[1] == 2]
        for inode, (kind, second, length, _) in records.items():
            found = [directory for directory, child in entries if child == inode]
            if kind == FILE:
                self.assertEqual((second, length), (len(found), 0))
            else:
                self.assertEqual(found, [] if inode == 1 else [second])
                self.assertEqual(length, len([1 for directory, _ in entries if directory == inode]))
                self.assertLessEqual(self.model.depth(inode), 8)

    def directories(self, *names, start=1):
        """Make a directory below the other for each name, and return the inodes."""
        made = []
        for name in names:
            made.append(self.change("make", made[-1] if made else start, name, DIRECTORY, 3))
        return made


class SplitTest(unittest.TestCase):

    def test_paths(self):
        names = "abcdefgh"
        words = [name_word(name) for name in names]
        long = "a" * 11
        for path, expected in {
                "": ("", False, []), "/": ("", True, []), "@main": ("main", True, []), "a": ("", False, [A]),
                "@main/a/b": ("main", True, [A, B]), "/a": ("", True, [A]), "a/b": ("", False, [A, B]),
                "/".join(names): ("", False, words), "/" + "/".join(names): ("", True, words),
                "@v/" + "/".join(names): ("v", True, words), long: ("", False, [name_word(long)]),
                "@" + long + "/" + long: (long, True, [name_word(long)]), "@-/._-": ("-", True, [name_word("._-")]),
                "..a/.b": ("", False, [name_word("..a"), name_word(".b")]), "@.a": (".a", True, []),
                "0/9": ("", False, [name_word("0"), name_word("9")]), "a/a/a": ("", False, [A, A, A])}.items():
            found = split_path(path)
            self.assertEqual(found, expected, path)
            self.assertIsInstance(found, tuple)
            self.assertIs(found[1], expected[1])

    def test_strings_that_are_not_paths(self):
        nine = "a/b/c/d/e/f/g/h/i"
        wrong = ["A", "a b", "a\n", "a!", "\u00e4", ".", "..", ".....", "a" * 12, " ", "a\\b", "a@b", "@"]
        for path in [
                "a//b", "//", "//a", "a/", "/a/", "a/b/", "@main/", "@main//", "@main//a", "@main/a/", "@", "@/", "@/a",
                "@@main", "/@main", "a/@main", nine, "/" + nine, "@main/" + nine, *wrong,
                *("/" + name for name in wrong), *("@" + name for name in wrong), *("@main/" + name for name in wrong),
                *("a/" + name + "/b" for name in wrong), *("@" + name + "/a" for name in wrong)]:
            with self.assertRaises(BadName, msg=path):
                split_path(path)

    def test_the_constants(self):
        self.assertEqual((paths.MAX_NAMES, paths.MAX_DEPTH), (8, 8))

    def test_returned_lists_are_new(self):
        split_path("/")[2].append(1)
        split_path("")[2].append(1)
        self.assertEqual((split_path("/"), split_path("")), (("", True, []), ("", False, [])))


class FollowTest(Tested):

    def test_following_names(self):
        self.start()
        first, second = self.directories(A, B)
        found = self.change("make", second, C, FILE, 1)
        for start, names, inode in (
                (1, [], 1), (second, [], second), (found, [], found), (99, [], 99), (1, [A], first),
                (first, [B], second), (1, [A, B], second), (1, [A, B, C], found), (second, [C], found)):
            self.assertEqual(follow(self.store, self.root, start, names), inode)

    def test_names_that_lead_nowhere(self):
        self.start()
        first, second = self.directories(A, B)
        found = self.change("make", second, C, FILE, 1)
        for start, names, error in (
                (1, [B], Missing), (1, [B, A], Missing), (1, [A, A], Missing), (1, [A, B, D], Missing),
                (1, [A, B, C, D], WrongKind), (1, [A, B, C, A, B], WrongKind), (found, [A], WrongKind),
                (99, [A], Missing), (99, [A, B], Missing), (0, [A], Missing)):
            self.assert_refused(self.store, error, follow, self.root, start, names)
        self.assertEqual(follow(self.store, self.root, first, [B]), second)

    def test_the_example_of_the_interface(self):
        self.assertEqual(split_path("@main/a/b"), ("main", True, [A, B]))
        self.start()
        first, second = self.directories(A, B)
        self.assertIs(self.change("move", 1, A, second, C), LoopFound)
        self.assertEqual(self.change("move", first, B, 1, B), 0)
        self.assertEqual(read_record(self.store, self.root, second), (2, 1, 0, 3))
        self.assertEqual(follow(self.store, self.root, 1, [B]), second)


class DirectoryTest(Tested):

    def test_depths_heights_and_names(self):
        self.start()
        chain = [1] + self.directories(*[name_of(number) for number in range(8)])
        side = self.change("make", 1, A, DIRECTORY, 3)
        low = self.change("make", side, B, DIRECTORY, 3)
        for directory in (side, low, chain[8]):
            self.change("make", directory, C, FILE, 1)
        before = state_of(self.store)
        for depth, inode in enumerate(chain):
            self.assertEqual(depth_of(self.store, self.root, inode), depth)
            self.assertEqual(height_of(self.store, self.root, inode), 8 - depth)
            words = [name_of(number) for number in range(depth)]
            self.assertEqual(path_names(self.store, self.root, inode), words)
            for other, outer in enumerate(chain):
                self.assertIs(is_within(self.store, self.root, inode, outer), other <= depth)
        self.assertEqual([depth_of(self.store, self.root, inode) for inode in (side, low)], [1, 2])
        self.assertEqual([height_of(self.store, self.root, inode) for inode in (side, low)], [1, 0])
        self.assertEqual(path_names(self.store, self.root, low), [A, B])
        self.assertIs(is_within(self.store, self.root, low, chain[1]), False)
        self.assertIs(is_within(self.store, self.root, chain[1], low), False)
        self.assertEqual(state_of(self.store), before)

    def test_a_volume_without_directories(self):
        self.start()
        for number in range(4):
            self.change("make", 1, name_of(number), FILE, 1)
        self.assertEqual((depth_of(self.store, self.root, 1), height_of(self.store, self.root, 1)), (0, 0))
        self.assertEqual(path_names(self.store, self.root, 1), [])
        self.assertIs(is_within(self.store, self.root, 1, 1), True)
        self.assertIs(is_within(self.store, self.root, 1, 99), False)
        self.assertIs(is_within(self.store, self.root, 1, 2), False)

    def test_the_height_is_that_of_the_deepest_part(self):
        self.start()
        for names in ((A, B, C), (B, C, D, A), (C,)):
            self.directories(*names)
        self.assertEqual(height_of(self.store, self.root, 1), 4)
        self.change("remove", follow(self.store, self.root, 1, [B, C, D]), A)
        self.assertEqual(height_of(self.store, self.root, 1), 3)

    def test_files_and_missing_inodes(self):
        self.start()
        found = self.change("make", 1, A, FILE, 1)
        for inode, error in ((found, WrongKind), (0, Missing), (99, Missing)):
            for function in (depth_of, height_of, path_names):
                self.assert_refused(self.store, error, function, self.root, inode)
            self.assert_refused(self.store, error, is_within, self.root, inode, 1)
            self.assert_refused(self.store, error, is_within, self.root, inode, inode)

    def test_directories_that_lead_back_end_all_the_same(self):
        self.start()
        chain = self.directories(A, B, C)
        for inode, parent in ((chain[0], chain[2]), (chain[1], chain[1])):
            root = write_record(self.store, self.root, inode, (DIRECTORY, parent, 1, 7))
            for call in (depth_of, path_names):
                with self.assertRaises(BadImage):
                    call(self.store, root, chain[2])
            with self.assertRaises(BadImage):
                is_within(self.store, root, chain[2], 1)
            self.root = root
        self.start()
        chain = self.directories(A, B, C)
        for directory, inode in ((chain[2], chain[2]), (chain[2], chain[0])):
            root = put(self.store, self.root, (directory, 2, D), (inode, DIRECTORY, 0, 0))
            with self.assertRaises(BadImage):
                height_of(self.store, root, chain[0])
            self.root = root

    def test_the_height_of_directories_with_many_ways_down(self):
        self.start()
        chain = [1] + self.directories(*[name_of(number) for number in range(8)])
        for number in range(7):
            for name in (A, B, C, D):
                value = (chain[number + 1], DIRECTORY, 0, 0)
                self.root = put(self.store, self.root, (chain[number], 2, name), value)
        self.assertEqual([height_of(self.store, self.root, inode) for inode in chain], list(range(8, -1, -1)))

    def test_a_directory_with_another_name_for_a_file_beside_it(self):
        self.start()
        self.change("make", 1, A, FILE, 1)
        inode = self.change("make", 1, B, DIRECTORY, 1)
        self.change("move", 1, B, 1, D)
        self.change("link", 2, 1, C)
        self.assertEqual(path_names(self.store, self.root, inode), [D])


class MakeTest(Tested):

    def test_files_and_directories(self):
        self.start()
        self.assertEqual(self.change("make", 1, A, FILE, 255), 2)
        self.assertEqual(read_record(self.store, self.root, 2), (1, 1, 0, 255))
        self.assertEqual(self.change("make", 1, B, DIRECTORY, 0), 3)
        self.assertEqual(read_record(self.store, self.root, 3), (2, 1, 0, 0))
        self.assertEqual(self.change("make", 3, A, DIRECTORY, 4), 4)
        self.assertEqual(read_record(self.store, self.root, 4), (2, 3, 0, 4))
        self.assertEqual(read_record(self.store, self.root, 3), (2, 1, 1, 0))

    def test_numbers_after_orphans(self):
        self.start()
        self.change("make", 1, A, FILE, 1)
        self.assertEqual(self.change("unlink", 1, A), 2)
        self.assertEqual(read_record(self.store, self.root, 2), (1, 0, 0, 1))
        self.assertEqual(self.change("make", 1, A, FILE, 1), 3)

    def test_depth_8(self):
        self.start()
        made = self.directories(*[name_of(number) for number in range(8)])
        self.refuse(TooMany, "make", made[7], A, DIRECTORY, 3)
        self.change("make", made[7], A, FILE, 3)
        self.change("make", made[6], A, DIRECTORY, 3)
        self.refuse(Exists, "make", made[7], A, DIRECTORY, 3)

    def test_refusals(self):
        self.start()
        self.change("make", 1, A, FILE, 1)
        for kind in (FILE, DIRECTORY):
            self.refuse(Exists, "make", 1, A, kind, 1)
            self.refuse(Missing, "make", 9, A, kind, 1)
            self.refuse(WrongKind, "make", 2, A, kind, 1)

    def test_100_entries(self):
        self.start()
        file, directory = self.change("make", 1, A, FILE, 1), self.change("make", 1, B, DIRECTORY, 1)
        self.change("make", directory, A, FILE, 1)
        self.change("make", directory, B, DIRECTORY, 1)
        for number in range(97):
            self.root, _ = make_entry(self.store, self.root, 1, name_of(number), FILE, 1)
            self.model.make(1, name_of(number), FILE, 1)
        self.assertEqual(read_record(self.store, self.root, 1)[2], 99)
        self.change("link", file, 1, C)
        for kind in (FILE, DIRECTORY):
            self.refuse(TooMany, "make", 1, D, kind, 1)
            self.refuse(Exists, "make", 1, C, kind, 1)
        self.refuse(TooMany, "link", file, 1, D)
        self.refuse(TooMany, "move", directory, A, 1, D)
        self.refuse(TooMany, "move", directory, B, 1, D)
        self.refuse(TooMany, "move", 1, A, 1, D)
        self.change("move", directory, A, 1, C)
        self.change("unlink", 1, C)
        self.change("move", 1, A, 1, D)
        self.change("move", directory, B, 1, A)
        self.refuse(TooMany, "link", file, 1, name_of(500))


class LinkTest(Tested):

    def test_names_of_a_file(self):
        self.start()
        file, directory = self.change("make", 1, A, FILE, 1), self.change("make", 1, B, DIRECTORY, 1)
        self.change("link", file, 1, C)
        self.change("link", file, directory, A)
        self.assertEqual(read_record(self.store, self.root, file), (1, 3, 0, 1))
        self.change("unlink", 1, A)
        self.change("unlink", 1, C)
        self.assertEqual(self.change("unlink", directory, A), file)
        self.assertEqual(read_record(self.store, self.root, file), (1, 0, 0, 1))
        self.change("link", file, 1, A)
        self.assertEqual(read_record(self.store, self.root, file), (1, 1, 0, 1))

    def test_60_links(self):
        self.start()
        file, other = self.change("make", 1, A, FILE, 1), self.change("make", 1, B, DIRECTORY, 1)
        for number in range(58):
            self.root = link_entry(self.store, self.root, file, other, name_of(number))
            self.model.link(file, other, name_of(number))
        self.change("link", file, 1, C)
        self.assertEqual(read_record(self.store, self.root, file)[1], 60)
        self.refuse(TooMany, "link", file, 1, D)
        self.refuse(Exists, "link", file, 1, C)
        self.change("move", 1, C, 1, D)
        self.change("unlink", 1, A)
        self.change("link", file, 1, A)
        self.refuse(TooMany, "link", file, 1, C)

    def test_the_order_of_the_exceptions(self):
        self.start()
        file, directory = self.change("make", 1, A, FILE, 1), self.change("make", 1, B, DIRECTORY, 1)
        for target in (1, file, 99):
            self.refuse(Missing, "link", 98, target, A)
            self.refuse(WrongKind, "link", directory, target, A)
            self.refuse(WrongKind, "link", 1, target, C)
        for name in (A, C):
            self.refuse(Missing, "link", file, 99, name)
            self.refuse(WrongKind, "link", file, file, name)
        self.refuse(Exists, "link", file, 1, A)
        self.refuse(Exists, "link", file, 1, B)

    def test_unlinking(self):
        self.start()
        file, directory = self.change("make", 1, A, FILE, 1), self.change("make", 1, B, DIRECTORY, 1)
        self.refuse(Missing, "unlink", 99, A)
        self.refuse(WrongKind, "unlink", file, A)
        self.refuse(Missing, "unlink", 1, C)
        self.refuse(WrongKind, "unlink", 1, B)
        self.refuse(Missing, "unlink", directory, A)


class RemoveTest(Tested):

    def test_directories(self):
        self.start()
        first, second = self.directories(A, B)
        file = self.change("make", 1, C, FILE, 1)
        self.refuse(NotEmpty, "remove", 1, A)
        self.refuse(WrongKind, "remove", 1, C)
        self.refuse(Missing, "remove", 1, D)
        self.refuse(Missing, "remove", second, A)
        self.refuse(WrongKind, "remove", file, A)
        self.refuse(Missing, "remove", 99, A)
        self.change("make", second, A, FILE, 1)
        self.refuse(NotEmpty, "remove", first, B)
        self.change("unlink", second, A)
        self.change("remove", first, B)
        self.change("remove", 1, A)
        self.refuse(Missing, "remove", 1, A)


class MoveTest(Tested):

    def test_onto_the_same_inode(self):
        self.start()
        file, directory = self.change("make", 1, A, FILE, 1), self.change("make", 1, B, DIRECTORY, 1)
        self.change("link", file, directory, A)
        self.store.use_reserve(300)
        before, root = state_of(self.store), self.root
        for given in ((1, A, 1, A), (1, B, 1, B), (1, A, directory, A), (directory, A, 1, A)):
            self.assertEqual(move_entry(self.store, self.root, *given), (root, 0))
            self.assertEqual(self.change("move", *given), 0)
        self.assertEqual((state_of(self.store), self.root), (before, root))

    def test_files(self):
        self.start()
        first, second = self.change("make", 1, A, FILE, 1), self.change("make", 1, B, FILE, 2)
        directory = self.change("make", 1, C, DIRECTORY, 1)
        self.assertEqual(self.change("move", 1, A, 1, D), 0)
        self.assertEqual(self.change("move", 1, D, directory, A), 0)
        self.assertEqual(read_record(self.store, self.root, first), (1, 1, 0, 1))
        self.assertEqual(self.change("move", directory, A, 1, B), second)
        self.assertEqual(read_record(self.store, self.root, second), (1, 0, 0, 2))
        self.change("link", first, directory, B)
        self.change("link", first, 1, A)
        third = self.change("make", 1, D, FILE, 2)
        self.assertEqual(self.change("move", 1, D, directory, B), first)
        self.assertEqual(read_record(self.store, self.root, first), (1, 2, 0, 1))
        self.assertEqual(list_entries(self.store, self.root, directory), [(B, third, 1)])

    def test_directories(self):
        self.start()
        first, second = self.directories(A, B)
        third = self.change("make", 1, C, DIRECTORY, 5)
        self.change("make", third, A, FILE, 1)
        self.assertEqual(self.change("move", 1, C, 1, D), 0)
        self.assertEqual(read_record(self.store, self.root, third), (2, 1, 1, 5))
        self.assertEqual(self.change("move", 1, D, first, C), 0)
        self.assertEqual(read_record(self.store, self.root, third), (2, first, 1, 5))
        self.assertEqual(self.change("move", first, C, first, B), 0)
        self.assertEqual(read_record(self.store, self.root, third), (2, first, 1, 5))
        self.assert_refused(self.store, Missing, read_record, self.root, second)
        self.change("make", 1, D, DIRECTORY, 5)
        self.assertEqual(self.change("move", first, B, 1, D), 0)
        self.assertEqual(read_record(self.store, self.root, third), (2, 1, 1, 5))

    def test_a_full_directory_and_other_kinds(self):
        self.start()
        self.directories(A, B)
        self.change("make", 1, C, FILE, 1)
        self.change("make", 1, D, DIRECTORY, 1)
        self.refuse(NotEmpty, "move", 1, D, 1, A)
        self.refuse(WrongKind, "move", 1, C, 1, A)
        self.refuse(WrongKind, "move", 1, D, 1, C)
        self.refuse(WrongKind, "move", 1, A, 1, C)
        self.refuse(WrongKind, "move", 1, C, 1, D)
        self.refuse(NotEmpty, "move", 2, B, 1, A)

    def test_into_the_moved_directory_and_below_it(self):
        self.start()
        first, second, third = self.directories(A, B, C)
        self.change("make", third, A, FILE, 1)
        self.change("make", second, D, DIRECTORY, 1)
        self.change("make", first, D, FILE, 1)
        for target in (first, second, third):
            for name in (A, B, C, D):
                self.refuse(LoopFound, "move", 1, A, target, name)
        self.refuse(LoopFound, "move", first, B, third, D)
        self.refuse(LoopFound, "move", first, B, second, C)
        self.assertEqual(self.change("move", second, C, first, C), 0)
        self.refuse(LoopFound, "move", 1, A, third, C)

    def test_the_order_of_the_exceptions(self):
        self.start()
        first, second = self.directories(A, B)
        file = self.change("make", 1, C, FILE, 1)
        self.change("make", second, C, FILE, 1)
        for target in (1, file, 99):
            self.refuse(Missing, "move", 98, A, target, A)
            self.refuse(WrongKind, "move", file, A, target, A)
            self.refuse(Missing, "move", 1, D, target, A)
        for name in (A, C):
            self.refuse(Missing, "move", 1, name, 99, A)
            self.refuse(WrongKind, "move", 1, name, file, A)
        self.refuse(LoopFound, "move", 1, A, second, C)
        self.refuse(LoopFound, "move", 1, A, first, B)

    def test_the_depth_comes_after_wrong_kinds_and_full_directories(self):
        self.start()
        chain = self.directories(*[name_of(number) for number in range(8)])
        low = self.directories(A, B)
        self.change("make", chain[7], A, FILE, 1)
        self.change("make", chain[6], B, DIRECTORY, 1)
        self.change("make", chain[6], C, FILE, 1)
        self.refuse(WrongKind, "move", 1, A, chain[7], A)
        self.refuse(NotEmpty, "move", 1, A, chain[6], name_of(7))
        self.refuse(TooMany, "move", 1, A, chain[6], B)
        self.refuse(TooMany, "move", 1, A, chain[6], D)
        self.refuse(TooMany, "move", low[0], B, chain[7], D)
        self.refuse(LoopFound, "move", 1, name_of(0), chain[7], D)
        self.change("move", low[0], B, chain[6], D)

    def test_the_bound_of_the_depth(self):
        for depth in range(9):
            for height in range(9):
                self.start()
                chain = [1] + self.directories(*[name_of(number) for number in range(depth)])
                moved = self.directories(*[[A, B, C, D][number % 4] for number in range(min(height + 1, 8))])
                if height_of(self.store, self.root, moved[0]) != height:
                    continue
                found = self.change("move", 1, A, chain[depth], C)
                self.assertEqual(found, TooMany if depth + 1 + height > 8 else 0)
                if depth + 1 + height <= 8:
                    self.assertEqual(depth_of(self.store, self.root, moved[-1]), depth + 1 + height)

    def test_a_file_may_lie_below_depth_8(self):
        self.start()
        chain = self.directories(*[name_of(number) for number in range(8)])
        self.change("make", 1, A, FILE, 1)
        self.assertEqual(self.change("move", 1, A, chain[7], A), 0)

    def test_replacing_an_empty_directory_in_a_full_one_needs_no_entry(self):
        self.start()
        first = self.change("make", 1, A, DIRECTORY, 1)
        self.change("make", 1, B, DIRECTORY, 1)
        for number in range(98):
            self.root, _ = make_entry(self.store, self.root, 1, name_of(number), FILE, 1)
            self.model.make(1, name_of(number), FILE, 1)
        second = self.change("make", first, C, DIRECTORY, 1)
        self.refuse(TooMany, "move", first, C, 1, D)
        self.assertEqual(self.change("move", first, C, 1, B), 0)
        self.assertEqual(read_record(self.store, self.root, second), (2, 1, 0, 1))


class OrderTest(Tested):

    def test_the_blocks_in_a_committed_tree(self):
        self.start()
        made = self.directories(A, B) + self.directories(C)
        for number in range(12):
            self.change("make", 1, name_of(number), FILE, 1)
            self.change("make", made[1], name_of(number), FILE, 1)
        self.change("make", made[0], D, DIRECTORY, 1)
        for given in (
                ("make", made[2], D, FILE, 3), ("make", made[2], B, DIRECTORY, 3), ("link", 5, made[1], D),
                ("unlink", 1, name_of(7)), ("remove", made[2], B), ("move", 1, name_of(2), made[1], name_of(9)),
                ("move", made[1], name_of(3), 1, D), ("move", 1, C, made[0], C), ("move", made[0], B, made[0], D),
                ("move", 1, name_of(1), 1, name_of(4))):
            self.store = commit(self.store)
            self.assertFalse(isinstance(self.change(*given), type), given)

    def test_other_orders_would_take_other_blocks(self):
        self.start()
        self.directories(A, B)
        for number in range(20):
            self.change("make", 1, name_of(number), FILE, 1)
        self.store = commit(self.store)

        def entry_first(store, root, name):
            root = put(store, root, (1, 2, name), (24, 1, 0, 0))
            root = change_record(store, root, 1, length=1)
            return put(store, root, (24, 1, 0), (1, 1, 0, 5)), 24

        self.assertNotEqual(
            left_by(self.store, entry_first, self.root, C), left_by(self.store, make_entry, self.root, 1, C, FILE, 5))

        def record_first(store, root, inode):
            root = change_record(store, root, inode, second=-1)
            root, _ = take(store, root, (1, 2, name_of(inode - 4)))
            return change_record(store, root, 1, length=-1), inode

        self.assertNotEqual(
            left_by(self.store, record_first, self.root, 20),
            left_by(self.store, unlink_entry, self.root, 1, name_of(16)))

    def test_the_reserve_of_the_store(self):
        self.start(160)
        made = self.directories(A, B) + self.directories(C)
        for number in range(8):
            self.change("make", 1, name_of(number), FILE, 1)
        self.store = commit(self.store)
        for kind, given in (
                ("make", (1, D, FILE, 1)), ("make", (1, D, DIRECTORY, 1)), ("link", (6, 1, D)),
                ("unlink", (1, name_of(2))), ("remove", (1, C)), ("move", (1, name_of(2), made[1], C)),
                ("move", (1, name_of(2), 1, name_of(3))), ("move", (1, C, made[0], B))):
            self.assertGreater(self.assert_needs_room(self.store, CHANGES[kind][0], self.root, *given), 2)


class ManyChangesTest(Tested):

    def choose(self, chosen):
        """A change, mostly of inodes that are there."""
        inodes = sorted(self.model.nodes)
        low, high = inodes[0], inodes[-1] + 1
        directories = [inode for inode in inodes if self.model.nodes[inode]["kind"] == 2]

        def some_directory():
            return chosen.choice(directories) if chosen.random() < 0.95 else chosen.randrange(low, high + 1)

        def some_name(directory):
            known = list(self.model.nodes.get(directory, {}).get("entries", {}))
            return chosen.choice(known) if known and chosen.random() < 0.7 else chosen.choice((A, B, C, D))

        kind = chosen.choice(("make", "make", "link", "unlink", "remove", "move", "move", "move"))
        directory, target = some_directory(), some_directory()
        if kind == "make":
            return kind, directory, chosen.choice((A, B, C, D)), chosen.choice((1, 2, 2)), chosen.randrange(256)
        if kind == "link":
            return kind, chosen.choice(inodes), directory, chosen.choice((A, B, C, D))
        if kind == "move":
            return kind, directory, some_name(directory), target, some_name(target)
        return kind, directory, some_name(directory)

    def test_against_the_model(self):
        seen = {}
        for seed in range(8):
            chosen = random.Random(seed)
            self.start()
            for at in range(160):
                given = self.choose(chosen)
                found = self.change(*given)
                word = found.__name__ if isinstance(found, type) else "done"
                seen[given[0], word] = seen.get((given[0], word), 0) + 1
                if at % 10 == 0:
                    self.store = commit(self.store)
                for inode in self.model.nodes:
                    if self.model.nodes[inode]["kind"] == 2:
                        names = path_names(self.store, self.root, inode)
                        self.assertEqual(names, self.model.names(inode))
                        self.assertEqual(height_of(self.store, self.root, inode), self.model.height(inode))
        for error in ("done", "Missing", "WrongKind", "LoopFound", "NotEmpty"):
            self.assertGreater(seen["move", error], 3, seen)

    def test_a_shared_tree_keeps_its_names(self):
        self.start()
        first, second = self.directories(A, B)
        file = self.change("make", second, C, FILE, 1)
        self.root = write_range(self.store, self.root, file, 0, [1, 2, 3])
        before = checked_items(self.store, self.root)[0]
        self.store.share(self.root)
        other, _ = move_entry(self.store, self.root, first, B, 1, B)
        other, _ = unlink_entry(self.store, other, second, C)
        other = remove_directory_entry(self.store, other, 1, B)
        other, _ = make_entry(self.store, other, 1, D, DIRECTORY, 1)
        other = link_entry(self.store, other, file, 1, C)
        self.assertEqual(checked_items(self.store, self.root)[0], before)
        self.assertEqual(uses_of(self.store), counted_uses(self.store, [(self.root, True), (other, True)]))

    def test_a_record_that_moves_keeps_its_other_words(self):
        self.start()
        first, second = self.directories(A, B)
        self.root = write_record(self.store, self.root, second, (2, first, 0, 255))
        self.root, _ = move_entry(self.store, self.root, first, B, 1, D)
        self.assertEqual(read_record(self.store, self.root, second), (2, 1, 0, 255))


if __name__ == "__main__":
    unittest.main()
