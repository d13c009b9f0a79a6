"""The interface of DOC.md: each name stands in its file with the arguments that are listed."""

import importlib
import inspect
import unittest

FUNCTIONS = {
    "words": ["is_word(value)", "are_words(values, many)", "name_word(name)", "word_name(word)"],
    "disk": ["disk_from(image)"],
    "heads": ["place(generation)", "is_valid_head(sector, words)", "present_head(disk)", "log_mark(disk)"],
    "nodes": [
        "most_items(kind)", "to_block(kind, items, pointer)", "from_block(block)", "own_pointer(block)",
        "pointers(block)", "split_items(items, most)", "place_of(items, key)", "child_of(items, key)"],
    "trees": [
        "empty_tree(store)", "look_up(store, root, key)", "put(store, root, key, value)", "take(store, root, key)",
        "next_item(store, root, key)", "last_item(store, root)", "items_between(store, root, low, high)",
        "height(store, root)", "node_pointers(store, root)", "release_pointer(store, pointer, is_node)",
        "release(store, root)"],
}
CLASSES = {
    "disk": {"Disk": [
        "__init__(self, blocks)", "read(self, sector)", "write(self, sector, words)", "flush(self)", "waiting(self)",
        "fail_after(self, count)", "cut(self, choices)", "image(self)", "lasting(self)"]},
    "heads": {"Head": ["__init__(self, generation, table, blocks)", "sector(self)"]},
    "space": {"Space": [
        "__init__(self, uses)", "take(self, reserve)", "least_free(self)", "share(self, block)", "drop(self, block)",
        "uses(self, block)", "is_held(self, block)", "is_new(self, block)", "is_free(self, block)", "free(self)",
        "pending(self)", "settle(self)", "saved(self)", "restore(self, saved)"]},
    "store": {"Store": [
        "__init__(self, disk, head, space)", "use_table(self, pointer)", "use_reserve(self, reserve)",
        "generation(self)", "read(self, pointer)", "next_pointer(self)", "make(self, words)", "is_new(self, pointer)",
        "write(self, pointer, words)", "share(self, pointer)", "drop(self, pointer)", "uses(self, pointer)",
        "require(self, many)", "free(self)", "new_blocks(self)", "saved(self)", "restore(self, saved)"]},
}


def written(function):
    """The name and the arguments of a function, as the interface writes them."""
    return function.__name__ + str(inspect.signature(function))


class InterfaceTest(unittest.TestCase):

    def test_functions(self):
        for module, functions in FUNCTIONS.items():
            found = importlib.import_module("laminae." + module)
            for function in functions:
                value = vars(found)[function.partition("(")[0]]
                self.assertEqual(written(value), function)
                self.assertEqual(value.__module__, "laminae." + module)

    def test_methods_stand_in_the_class_itself(self):
        for module, classes in CLASSES.items():
            found = importlib.import_module("laminae." + module)
            for name, methods in classes.items():
                self.assertEqual(vars(found)[name].__module__, "laminae." + module)
                for method in methods:
                    self.assertEqual(written(vars(vars(found)[name])[method.partition("(")[0]]), method)


if __name__ == "__main__":
    unittest.main()
