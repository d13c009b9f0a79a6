"""The interface of DOC.md: each name stands in its file with the arguments that are listed."""

import importlib
import inspect
import unittest

FUNCTIONS = {
    "words": ["is_word(value)", "are_words(values, many)", "name_word(name)", "word_name(word)"],
    "disk": ["disk_from(image)"],
    "heads": ["place(generation)", "is_valid_head(sector, words)", "present_head(disk)", "log_mark(disk)"],
}
CLASSES = {
    "disk": {"Disk": [
        "__init__(self, blocks)", "read(self, sector)", "write(self, sector, words)", "flush(self)", "waiting(self)",
        "fail_after(self, count)", "cut(self, choices)", "image(self)", "lasting(self)"]},
    "heads": {"Head": ["__init__(self, generation, table, blocks)", "sector(self)"]},
}


def written(function):
    """The name and the arguments of a function, as the interface writes them."""
    return function.__name__ + str(inspect.signature(function))


class InterfaceTest(unittest.TestCase):

    def test_functions(self):
        for module, functions in FUNCTIONS.items():
            found = importlib.import_module("laminae." + module)
            for function in functions:
                value = vars(found)[function.partition("(")[0]]
                self.assertEqual(written(value), function)
                self.assertEqual(value.__module__, "laminae." + module)

    def test_methods_stand_in_the_class_itself(self):
        for module, classes in CLASSES.items():
            found = importlib.import_module("laminae." + module)
            for name, methods in classes.items():
                self.assertEqual(vars(found)[name].__module__, "laminae." + module)
                for method in methods:
                    self.assertEqual(written(vars(vars(found)[name])[method.partition("(")[0]]), method)


if __name__ == "__main__":
    unittest.main()
