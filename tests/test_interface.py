"""The interface of DOC.md: each name stands in its file with the arguments that are listed."""

import importlib
import inspect
import unittest

FUNCTIONS = {
    "words": ["is_word(value)", "are_words(values, many)", "name_word(name)", "word_name(word)"],
    "disk": ["disk_from(image)"],
    "heads": ["place(generation)", "is_valid_head(sector, words)", "present_head(disk)", "log_mark(disk)"],
    "nodes": [
        "most_items(kind)", "to_block(kind, items, pointer)", "from_block(block)", "own_pointer(block)",
        "pointers(block)", "split_items(items, most)", "place_of(items, key)", "child_of(items, key)"],
    "trees": [
        "empty_tree(store)", "look_up(store, root, key)", "put(store, root, key, value)", "take(store, root, key)",
        "next_item(store, root, key)", "last_item(store, root)", "items_between(store, root, low, high)",
        "height(store, root)", "node_pointers(store, root)", "release_pointer(store, pointer, is_node)",
        "release(store, root)"],
    "commits": ["commit_steps(store)", "commit(store)"],
    "inodes": [
        "make_tree(store, owner)", "read_record(store, root, inode)", "write_record(store, root, inode, record)",
        "next_inode(store, root)", "add_inode(store, root, kind, second, owner)",
        "set_owner_of(store, root, inode, owner)", "list_inodes(store, root)", "list_orphans(store, root)",
        "charge_of(store, root, inode)"],
    "dirs": [
        "find_entry(store, root, directory, name)", "add_entry(store, root, directory, name, inode, kind)",
        "drop_entry(store, root, directory, name)", "change_entry(store, root, directory, name, inode, kind)",
        "list_entries(store, root, directory)"],
    "data": [
        "read_range(store, root, inode, start, count)", "write_range(store, root, inode, start, cells)",
        "set_length(store, root, inode, length)", "share_range(store, root, source, first, target, at, units)",
        "units_after_share(store, root, source, first, target, at, units)",
        "units_after_write(store, root, inode, start, cells)", "list_units(store, root, inode)",
        "count_units(store, root, inode)", "erase_inode(store, root, inode)"],
    "paths": [
        "split_path(path)", "follow(store, root, start, names)",
        "make_entry(store, root, directory, name, kind, owner)", "link_entry(store, root, inode, directory, name)",
        "unlink_entry(store, root, directory, name)", "remove_directory_entry(store, root, directory, name)",
        "move_entry(store, root, directory, name, target, new_name)", "is_within(store, root, inner, outer)",
        "depth_of(store, root, directory)", "height_of(store, root, directory)",
        "path_names(store, root, directory)"],
    "volumes": [
        "list_volumes(store)", "find_volume(store, name)", "prepare_root(store, name)", "set_root(store, name, root)",
        "count_charges(store, root)", "make_volume(store, accounts, name)", "take_snapshot(store, volume, name)",
        "clone_snapshot(store, accounts, snapshot, name)", "drop_volume(store, accounts, name)",
        "roll_back(store, accounts, volume, snapshot)", "waiting_roots(store)", "release_step(store)"],
    "handles": [
        "find_orphans(store, volume)", "remove_orphan(store, accounts, volume, inode)",
        "remove_if_room(store, accounts, volume, inode)", "recover_orphan(store)",
        "close_open_file(store, accounts, handles, number)", "read_open_file(store, handles, number, count)",
        "write_open_file(store, accounts, handles, number, cells)",
        "resize_open_file(store, accounts, handles, number, length)"],
    "procs": [
        "fork(handles, processes, process)", "duplicate(handles, processes, process, descriptor)",
        "close_descriptor(store, accounts, handles, processes, process, descriptor)",
        "leave(store, accounts, handles, processes, process)"],
    "intents": [
        "sectors_of(intent)", "record_sectors(intent, record, generation)", "whole_records(sectors, generation)",
        "check_intent(words)", "play(store, intent)", "play_all(store, intents)"],
    "calls": [
        "open_file(session, process, path, mode)", "close_file(session, process, descriptor)",
        "read_cells(session, process, descriptor, count)", "write_cells(session, process, descriptor, cells)",
        "move_to(session, process, descriptor, position)", "resize(session, process, descriptor, length)",
        "share_units(session, process, source, first, target, at, units)", "describe(session, process, path)",
        "describe_open(session, process, descriptor)", "list_directory(session, process, path)"],
    "naming": [
        "make_directory(session, process, path)", "remove_directory(session, process, path)",
        "link_file(session, process, old, new)", "unlink_file(session, process, path)",
        "rename_path(session, process, old, new)", "give_path(session, process, path, owner)"],
    "admin": [
        "duplicate_file(session, process, descriptor)", "fork_process(session, process)",
        "end_process(session, process)", "enter_directory(session, process, path)", "current_path(session, process)",
        "become(session, process, owner)", "create_volume(session, process, name)",
        "create_snapshot(session, process, volume, name)", "create_clone(session, process, snapshot, name)",
        "restore_volume(session, process, volume, snapshot)", "delete_volume(session, process, name)",
        "show_volumes(session, process)",
        "put_owner(session, process, owner, parent, charge_limit, inode_limit)",
        "delete_owner(session, process, owner)", "show_owners(session, process)",
        "owner_usage(session, process, owner)", "sync_file(session, process, descriptor)",
        "sync_all(session, process)", "room(session, process)"],
    "system": ["state_of(store)", "call_names()"],
    "checks": [
        "check(image)", "reached(image)", "sound_items(image, root, generation)", "volume_state(image, items)"],
    "mounts": ["make_disk(blocks)", "count_uses(disk, head)", "open_disk(disk)", "recovery_step(store)", "mount(disk)"],
}
CONSTANTS = {
    "disk": {"MIN_BLOCKS": 96, "MAX_BLOCKS": 256, "SECTOR_WORDS": 8, "BLOCK_WORDS": 32},
    "heads": {"LOG_BLOCKS": 4, "FIRST_BLOCK": 5, "FIRST_SECTOR": 4, "LOG_SECTORS": 16},
    "nodes": {"LEAF": 1, "INNER": 2, "LEAF_ITEMS": 4, "INNER_ITEMS": 5},
    "space": {"ADD": 60, "REMOVE": 20},
    "inodes": {"FILE": 1, "DIRECTORY": 2, "ROOT": 1, "MAX_LINKS": 60, "MAX_ENTRIES": 100},
    "data": {"UNIT": 32, "MAX_CELLS": 2048},
    "paths": {"MAX_NAMES": 8, "MAX_DEPTH": 8},
}
CLASSES = {
    "disk": {"Disk": [
        "__init__(self, blocks)", "read(self, sector)", "write(self, sector, words)", "flush(self)", "waiting(self)",
        "fail_after(self, count)", "cut(self, choices)", "image(self)", "lasting(self)"]},
    "heads": {"Head": ["__init__(self, generation, table, blocks)", "sector(self)"]},
    "space": {"Space": [
        "__init__(self, uses)", "take(self, reserve)", "least_free(self)", "share(self, block)", "drop(self, block)",
        "uses(self, block)", "is_held(self, block)", "is_new(self, block)", "is_free(self, block)", "free(self)",
        "pending(self)", "settle(self)", "saved(self)", "restore(self, saved)"]},
    "store": {"Store": [
        "__init__(self, disk, head, space)", "use_table(self, pointer)", "use_reserve(self, reserve)",
        "generation(self)", "read(self, pointer)", "next_pointer(self)", "make(self, words)", "is_new(self, pointer)",
        "write(self, pointer, words)", "share(self, pointer)", "drop(self, pointer)", "uses(self, pointer)",
        "require(self, many)", "free(self)", "new_blocks(self)", "saved(self)", "restore(self, saved)"]},
    "owners": {"Accounts": [
        "__init__(self, store)", "list_owners(self)", "is_registered(self, owner)", "chain(self, owner)",
        "usage(self, owner)", "put_owner(self, store, owner, parent, charge_limit, inode_limit)",
        "drop_owner(self, store, owner)", "check_charge(self, owner, charge, inodes)",
        "add_charge(self, owner, charge, inodes)", "check_change(self, removed, added)",
        "apply_change(self, removed, added)"]},
    "handles": {"Handles": [
        "__init__(self)", "open_files(self)", "add_open_file(self, volume, inode, mode)", "look_up(self, number)",
        "move_to(self, number, position)", "add_reference(self, number)", "drop_reference(self, number)",
        "is_open(self, volume, inode)", "uses_volume(self, volume)"]},
    "procs": {"Processes": [
        "__init__(self, volume)", "list_processes(self)", "look_up(self, process)", "set_owner(self, process, owner)",
        "set_directory(self, process, volume, directory)", "has_room(self, process)",
        "add_descriptor(self, process, number)", "find_open_file(self, process, descriptor)",
        "drop_descriptor(self, process, descriptor)", "works_in(self, volume, directory)", "uses_volume(self, volume)",
        "uses_owner(self, owner)"]},
    "intents": {"Log": ["__init__(self, generation)", "fits(self, intents)", "append_records(self, intents)"]},
    "session": {"Session": [
        "__init__(self, store)", "commit_changes(self)", "write_log(self)", "note(self, intent)",
        "prepare(self, reserve)"]},
    "system": {"System": [
        "__init__(self, blocks)", "fail_after(self, count)", "cut(self, choices)", "mount(self)", "unmount(self)",
        "ask(self, name, process, *arguments)", "state(self)", "image(self)"]},
}


def written(function):
    """The name and the arguments of a function, as the interface writes them."""
    return function.__name__ + str(inspect.signature(function))


class InterfaceTest(unittest.TestCase):

    def test_functions(self):
        for module, functions in FUNCTIONS.items():
            found = importlib.import_module("laminae." + module)
            for function in functions:
                value = vars(found)[function.partition("(")[0]]
                self.assertEqual(written(value), function)
                self.assertEqual(value.__module__, "laminae." + module)

    def test_constants(self):
        for module, constants in CONSTANTS.items():
            found = vars(importlib.import_module("laminae." + module))
            self.assertEqual({name: found[name] for name in constants}, constants)

    def test_methods_stand_in_the_class_itself(self):
        for module, classes in CLASSES.items():
            found = importlib.import_module("laminae." + module)
            for name, methods in classes.items():
                self.assertEqual(vars(found)[name].__module__, "laminae." + module)
                for method in methods:
                    self.assertEqual(written(vars(vars(found)[name])[method.partition("(")[0]]), method)


if __name__ == "__main__":
    unittest.main()
